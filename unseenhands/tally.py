"""Counts by points, kept in one whole number.

A *tally* has the count for p points in its SLOT_BITS bits from p * SLOT_BITS on. Two
tallies times one another are the tally of all pairs, as points add up like places do.
No count reaches the size of a slot: 39 cards have fewer than 9000000000 hands of 13.
"""

from unseenhands.meaning import SLOTS

SLOT_BITS = 40
SLOT_ONES = 0xFFFFFFFFFF


# The same counts, each for so many points more.
def raised(tally, points):
    return tally << (points * SLOT_BITS)


# All bits of the slots whose points have their bit here.
def slots_of(points_bits):
    slots = 0
    for points in range(SLOTS):
        if points_bits >> points & 1:
            slots |= raised(SLOT_ONES, points)
    return slots


# All counts of a tally together.
def total_of(tally):
    total = 0
    while tally > 0:
        total += tally & SLOT_ONES
        tally >>= SLOT_BITS
    return total


# The points that have a count, rising, each with it.
def counts_of(tally):
    counts = []
    for points in range(SLOTS):
        count = tally >> (points * SLOT_BITS) & SLOT_ONES
        if count > 0:
            counts.append((points, count))
    return counts
