"""The calls: each takes the view, its whole numbers and its row, and gives the answer.

An answer is a list of whole numbers that begins with 0, or one refusal alone. A wrong
text leaves as WrongText, ahead of any change.
"""

from unseenhands.cards import DECK_SIZE, SUIT_SIZE
from unseenhands.counting import IN, OUT
from unseenhands.fitting import meets
from unseenhands.grammar import cards_named, program_of
from unseenhands.spread import POINTS, point_counts, shapes_of, sum_over_hands
from unseenhands.tally import total_of
from unseenhands.wording import text_of

OUT_OF_RANGE = -1
WRONG_NUMBER_UNSEEN = -2
NOT_UNSEEN = -3
KNOWN_WRONGLY = -4
NO_ROOM = -5
NO_SUCH_HAND = -7
TOO_MANY_NAMED = -9

MOST_UNSEEN = 39
MOST_BYTES = 400
MOST_NAMED = 3
MOST_K = 1000000000000
MOST_SHAPES = 20


def is_card(number):
    return 0 <= number < DECK_SIZE


def are_cards(row):
    return all([is_card(number) for number in row]) and len(set(row)) == len(row)


def is_text(row):
    return len(row) <= MOST_BYTES and all([0 <= byte <= 255 for byte in row])


# 0 and both numbers of the fraction in its least form; lower isn't 0.
def least_fraction(upper, lower):
    divisor = lower
    remainder = upper
    while remainder > 0:
        left = divisor % remainder
        divisor = remainder
        remainder = left
    return [0, upper // divisor, lower // divisor]


def call_view(view, numbers, row):
    size = numbers[0]
    if not 0 <= size <= SUIT_SIZE or not are_cards(row):
        return [OUT_OF_RANGE]
    unseen = [card for card in range(DECK_SIZE) if card not in row]
    if not size <= len(unseen) <= MOST_UNSEEN:
        return [WRONG_NUMBER_UNSEEN]
    view.show(size, unseen)
    return [0, len(unseen)]


def call_give(view, numbers, row):
    card = numbers[0]
    there = numbers[1]
    if not is_card(card) or not 0 <= there <= 1:
        return [OUT_OF_RANGE]
    if card not in view.unseen:
        return [NOT_UNSEEN]
    if card in view.known:
        return [KNOWN_WRONGLY]
    if view.room(there) == 0:
        return [NO_ROOM]
    view.known[card] = there
    return [0]


def call_take(view, numbers, row):
    card = numbers[0]
    if not is_card(card):
        return [OUT_OF_RANGE]
    if card not in view.unseen:
        return [NOT_UNSEEN]
    if card not in view.known:
        return [KNOWN_WRONGLY]
    view.known.pop(card)
    return [0]


def call_hand(view, numbers, row):
    if not is_text(row):
        return [OUT_OF_RANGE]
    return set_conditions(view, program_of(row), view.rest_program)


def call_rest(view, numbers, row):
    if not is_text(row):
        return [OUT_OF_RANGE]
    return set_conditions(view, view.hand_program, program_of(row))


def too_many_named(programs):
    return len(cards_named(programs)) > MOST_NAMED


def set_conditions(view, hand_program, rest_program):
    if too_many_named((hand_program, rest_program)):
        return [TOO_MANY_NAMED]
    view.set_conditions(hand_program, rest_program)
    return [0]


def call_count(view, numbers, row):
    return [0, view.fitting_count(), view.hand_count()]


def call_chance(view, numbers, row):
    return least_fraction(view.fitting_count(), view.hand_count())


def call_holds(view, numbers, row):
    card = numbers[0]
    if not is_card(card):
        return [OUT_OF_RANGE]
    if card not in view.unseen:
        return [NOT_UNSEEN]
    fitting = view.fitting_count()
    if fitting == 0:
        return [NO_SUCH_HAND]
    return least_fraction(view.fitting_count_with(card), fitting)


def call_kth(view, numbers, row):
    k = numbers[0]
    if not 0 <= k <= MOST_K:
        return [OUT_OF_RANGE]
    if k >= view.fitting_count():
        return [NO_SUCH_HAND]
    return [0] + view.kth_fitting(k)


def call_place(view, numbers, row):
    if not are_cards(row):
        return [OUT_OF_RANGE]
    if not view.is_hand(row) or not view.fits(row):
        return [NO_SUCH_HAND]
    return [0, view.place_of(row)]


def call_shapes(view, numbers, row):
    limit = numbers[0]
    if not 1 <= limit <= MOST_SHAPES:
        return [OUT_OF_RANGE]
    shapes = shapes_of(view.tallies())
    told = shapes[:limit]
    answer = [0, len(shapes), len(told)]
    for shape in told:
        answer.extend(shape)
    return answer


def call_points(view, numbers, row):
    counted = point_counts(view.tallies())
    answer = [0, len(counted)]
    for points, count in counted:
        answer.extend([points, count])
    return answer


def call_mean(view, numbers, row):
    what = numbers[0]
    if not 0 <= what <= POINTS:
        return [OUT_OF_RANGE]
    tallies = view.tallies()
    if len(tallies) == 0:
        return [NO_SUCH_HAND]
    fitting = sum([total_of(tally) for lengths, tally in tallies])
    return least_fraction(sum_over_hands(tallies, what), fitting)


def call_meets(view, numbers, row):
    which = numbers[0]
    if not 0 <= which <= 1 or not are_cards(row):
        return [OUT_OF_RANGE]
    return [0, 1 if meets(view.program(which), row) else 0]


def call_implies(view, numbers, row):
    if not is_text(row):
        return [OUT_OF_RANGE]
    program = program_of(row)
    if too_many_named((view.hand_program, view.rest_program, program)):
        return [TOO_MANY_NAMED]
    denying = view.first_denying(program)
    if denying is None:
        return [0, 1]
    return [0, 0] + denying


def call_print(view, numbers, row):
    which = numbers[0]
    if not 0 <= which <= 1:
        return [OUT_OF_RANGE]
    text = text_of(view.program(which))
    return [0, len(text)] + [ord(sign) for sign in text]


def call_told(view, numbers, row):
    there = view.known_cards(IN)
    missing = view.known_cards(OUT)
    return [0, view.size, len(view.unseen), len(there)] + there + [len(missing)] + missing


# By the call's number: how many whole numbers it has, how many rows, and what answers it.
CALLS = (
    (1, 1, call_view),
    (2, 0, call_give),
    (1, 0, call_take),
    (0, 1, call_hand),
    (0, 1, call_rest),
    (0, 0, call_count),
    (0, 0, call_chance),
    (1, 0, call_holds),
    (1, 0, call_kth),
    (0, 1, call_place),
    (1, 0, call_shapes),
    (0, 0, call_points),
    (1, 0, call_mean),
    (1, 1, call_meets),
    (0, 1, call_implies),
    (1, 0, call_print),
    (0, 0, call_told),
)
