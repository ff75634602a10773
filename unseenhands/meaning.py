"""What conditions mean, worked out for all hands at once.

Whether a hand fits hangs on its four lengths, its points and the named cards that it
has. So hands are taken together by lengths: one *row* of lengths each. What a
condition says of a row is one whole number, a *mask*: its bit at
block * SLOTS + points tells whether the hands of that row meet it which have these
points and, of the named cards, those whose bits are in the block's number.
"""

# 0 to 40 points: a deck has 40 together.
SLOTS = 41

BALANCED = ((4, 3, 3, 3), (4, 4, 3, 2), (5, 3, 3, 2))


# The hands, or their rests, as conditions see them: told row by row.
#
# The points of the side are point_base + point_sign * the points of the hand, as
# masks are always about the hand's points. copies repeats one block's bits in all
# blocks; named_masks has the mask of each named card that may be there.
class Side:
    def __init__(self, rows, point_base, point_sign, copies, named_masks):
        self.rows = rows
        self.falling = [tuple(sorted(row, reverse=True)) for row in rows]
        self.point_base = point_base
        self.point_sign = point_sign
        self.copies = copies
        self.full = block_of_ones() * copies
        self.named_masks = named_masks


def block_of_ones():
    return (1 << SLOTS) - 1


# One bit at the beginning of each block: times a block's bits, these in all.
def block_copies(named_count):
    return sum([1 << (block * SLOTS) for block in range(1 << named_count)])


# The mask of all blocks in which the named card with this bit is in the hand.
def held_mask(bit, named_count):
    blocks = [block for block in range(1 << named_count) if block >> bit & 1]
    return sum([block_of_ones() << (block * SLOTS) for block in blocks])


def below(value, other):
    return value < other


def at_most(value, other):
    return value <= other


def above(value, other):
    return value > other


def at_least(value, other):
    return value >= other


def equal(value, other):
    return value == other


def unequal(value, other):
    return value != other


RELATIONS = {"<": below, "<=": at_most, ">": above, ">=": at_least, "=": equal, "!=": unequal}


def any_masks(step, side):
    return [side.full for row in side.rows]


def bal_masks(step, side):
    return [side.full if lengths in BALANCED else 0 for lengths in side.falling]


def shape_masks(step, side):
    return [side.full if lengths == step[1] else 0 for lengths in side.falling]


def exact_masks(step, side):
    # The text tells spades first, rows tell clubs first.
    wanted = tuple(reversed(step[1]))
    return [side.full if row == wanted else 0 for row in side.rows]


def card_masks(step, side):
    mask = side.named_masks.get(step[1], 0)
    return [mask for row in side.rows]


def compare_masks(step, side):
    relation = RELATIONS[step[2]]
    number = step[4]
    return sum_masks(side, step[1], step[3], lambda value: relation(value, number))


def range_masks(step, side):
    low = step[2]
    high = step[3]
    return sum_masks(side, step[1], (), lambda value: low <= value <= high)


# Where one sum less the other passes the test.
def sum_masks(side, terms, others, test):
    weights = [terms.count(term) - others.count(term) for term in ("c", "d", "h", "s", "pts")]
    base = weights[4] * side.point_base
    slope = weights[4] * side.point_sign
    values = weighted(side.rows, weights, base)
    # Rows have few unlike values, so each value's mask is made just once.
    masks = {}
    for value in values:
        if value not in masks:
            masks[value] = points_mask(value, slope, test) * side.copies
    return [masks[value] for value in values]


def weighted(rows, weights, base):
    clubs = weights[0]
    diamonds = weights[1]
    hearts = weights[2]
    spades = weights[3]
    return [base + clubs * c + diamonds * d + hearts * h + spades * s for c, d, h, s in rows]


def points_mask(value, slope, test):
    if slope == 0:
        return block_of_ones() if test(value) else 0
    return sum([1 << points for points in range(SLOTS) if test(value + slope * points)])


PLAIN_STEPS = {
    "any": any_masks,
    "bal": bal_masks,
    "shape": shape_masks,
    "exact": exact_masks,
    "card": card_masks,
    "compare": compare_masks,
    "range": range_masks,
}


# The mask of each row of the side.
def masks_of(program, side):
    stack = []
    for step in program:
        if step[0] == "not":
            denied = stack.pop()
            stack.append([side.full ^ mask for mask in denied])
        elif step[0] == "and":
            right = stack.pop()
            left = stack.pop()
            stack.append([one & other for one, other in zip(left, right)])
        elif step[0] == "or":
            right = stack.pop()
            left = stack.pop()
            stack.append([one | other for one, other in zip(left, right)])
        else:
            stack.append(PLAIN_STEPS[step[0]](step, side))
    return stack.pop()
