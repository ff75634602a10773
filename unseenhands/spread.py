"""How the hands that fit are spread over lengths and points.

All is told from rows of lengths with their tallies, as counting makes them.
"""

from unseenhands.tally import counts_of, total_of

# What a mean is asked of, behind the four suits.
POINTS = 4


# Of each row of lengths: spades, hearts, diamonds, clubs, and how many hands have it.
def shapes_of(tallies):
    counted = [(total_of(tally),) + tuple(reversed(lengths)) for lengths, tally in tallies]
    # The count and then spades, hearts, diamonds: just what the order goes by.
    return [shape[1:] + shape[:1] for shape in sorted(counted, reverse=True)]


# The points that hands have, rising, each with how many hands.
def point_counts(tallies):
    return counts_of(sum([tally for lengths, tally in tallies]))


# The length of a suit, or the points, of all hands together.
def sum_over_hands(tallies, what):
    if what == POINTS:
        return sum([points * count for points, count in point_counts(tallies)])
    return sum([lengths[what] * total_of(tally) for lengths, tally in tallies])
