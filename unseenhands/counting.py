"""Hands counted suit by suit, none of them walked."""

from unseenhands.cards import SUIT_SIGNS, of_suit, points_of
from unseenhands.tally import raised, total_of

# What may be known of a card: that it isn't in the hand, or that it is.
OUT = 0
IN = 1


# The ways once one more card is decided on.
def with_card(ways, points, bit, may_miss, may_have):
    after = {}
    for key, tally in ways.items():
        if may_miss:
            after[key] = after.get(key, 0) + tally
        if may_have:
            taken = (key[0] + 1, key[1] | bit)
            after[taken] = after.get(taken, 0) + raised(tally, points)
    return after


# For each length and block of named cards the tally of the sets of these cards.
def suit_ways(cards, known, named):
    ways = {(0, 0): 1}
    for card in cards:
        bit = 1 << named.index(card) if card in named else 0
        state = known.get(card)
        ways = with_card(ways, points_of(card), bit, state != IN, state != OUT)
    return ways


# For each two lengths the blocks of both suits together, each with its tally.
def paired_ways(first, second):
    pairs = {}
    for key, tally in first.items():
        for other, other_tally in second.items():
            ways = pairs.setdefault((key[0], other[0]), [])
            ways.append((key[1] | other[1], tally * other_tally))
    return pairs


# The rows of lengths that hands have which fit and are as known, each with its tally.
def fitting_tallies(fitting, unseen, known):
    suits = [suit_ways(of_suit(unseen, suit), known, fitting.named) for suit in range(len(SUIT_SIGNS))]
    minors = paired_ways(suits[0], suits[1])
    majors = paired_ways(suits[2], suits[3])
    tallies = []
    for minor_lengths, major_lengths, slots in fitting.rows:
        tally = 0
        for block, ways in minors.get(minor_lengths, ()):
            for other_block, other_ways in majors.get(major_lengths, ()):
                tally += ways * other_ways & slots[block | other_block]
        if tally > 0:
            tallies.append((minor_lengths + major_lengths, tally))
    return tallies


def count_fitting(fitting, unseen, known):
    return total_of(sum([tally for lengths, tally in fitting_tallies(fitting, unseen, known)]))


# How many sets of so many there are among so many free cards.
def count_all(free, chosen):
    ways = 1
    for step in range(chosen):
        ways = ways * (free - step) // (step + 1)
    return ways


# The hand before which just k come that fit; there must be one.
def kth_hand(fitting, unseen, known, k):
    decided = dict(known)
    for card in unseen:
        if card not in known:
            decided[card] = IN
            having = count_fitting(fitting, unseen, decided)
            if k >= having:
                k -= having
                decided[card] = OUT
    return [card for card in unseen if decided[card] == IN]


# How many hands that fit come before this one, which must be a hand.
def place_of_hand(fitting, unseen, known, hand):
    decided = dict(known)
    before = 0
    for card in unseen:
        if card not in known:
            decided[card] = IN
            if card not in hand:
                before += count_fitting(fitting, unseen, decided)
                decided[card] = OUT
    return before
