"""Which hands fit, told by their lengths, points and named cards; which sets meet a condition."""

from unseenhands.cards import lengths_of, points_together
from unseenhands.grammar import cards_named
from unseenhands.meaning import SLOTS, Side, block_copies, block_of_ones, held_mask, masks_of
from unseenhands.tally import slots_of


# Which hands fit, whatever is known of cards.
#
# named has the named cards that are unseen; a card's place there is its bit in the
# numbers of blocks. rows has, for each row of lengths that hands that fit may have:
# the lengths of clubs and diamonds, those of hearts and spades, and by the block the
# slots of the points that fit.
class Fitting:
    def __init__(self, named, rows):
        self.named = named
        self.rows = rows


# All rows of four lengths, none above these, that are together this size.
def length_rows(lengths, size):
    rows = []
    for clubs in range(min(lengths[0], size) + 1):
        for diamonds in range(min(lengths[1], size - clubs) + 1):
            left = size - clubs - diamonds
            for hearts in range(max(0, left - lengths[3]), min(lengths[2], left) + 1):
                rows.append((clubs, diamonds, hearts, left - hearts))
    return rows


def side_of_hands(rows, named):
    masks = {}
    for bit, card in enumerate(named):
        masks[card] = held_mask(bit, len(named))
    return Side(rows, 0, 1, block_copies(len(named)), masks)


def side_of_rests(rows, named, unseen):
    lengths = lengths_of(unseen)
    rest_rows = [tuple([whole - taken for whole, taken in zip(lengths, row)]) for row in rows]
    copies = block_copies(len(named))
    masks = {}
    for bit, card in enumerate(named):
        masks[card] = block_of_ones() * copies ^ held_mask(bit, len(named))
    return Side(rest_rows, points_together(unseen), -1, copies, masks)


# One set alone: its points are its own, so no mask hangs on a hand's.
def side_of_set(cards):
    masks = {}
    for card in cards:
        masks[card] = block_of_ones()
    return Side([lengths_of(cards)], points_together(cards), 0, block_copies(0), masks)


# Whether these cards meet the condition with this program, whatever is unseen.
def meets(program, cards):
    return masks_of(program, side_of_set(cards))[0] != 0


# The slots of each block; known_slots keeps those that were made already.
def slots_by_block(mask, blocks, known_slots):
    slots = []
    for block in range(blocks):
        bits = mask >> (block * SLOTS) & block_of_ones()
        if bits not in known_slots:
            known_slots[bits] = slots_of(bits)
        slots.append(known_slots[bits])
    return slots


# The Fitting of the hands of this size under conditions with these programs.
def fitting_of(unseen, size, hand_program, rest_program):
    named = [card for card in cards_named((hand_program, rest_program)) if card in unseen]
    rows = length_rows(lengths_of(unseen), size)
    hand_masks = masks_of(hand_program, side_of_hands(rows, named))
    rest_masks = masks_of(rest_program, side_of_rests(rows, named, unseen))
    known_slots = {}
    fitting_rows = []
    for row, hand_mask, rest_mask in zip(rows, hand_masks, rest_masks):
        mask = hand_mask & rest_mask
        if mask != 0:
            slots = slots_by_block(mask, 1 << len(named), known_slots)
            fitting_rows.append((row[:2], row[2:], slots))
    return Fitting(named, fitting_rows)
