"""The object that calls are made on: what is unseen, what is known, what is asked."""

from unseenhands.counting import IN, OUT, count_all, count_fitting, kth_hand
from unseenhands.fitting import fitting_of
from unseenhands.grammar import ANY_PROGRAM


# Unseen cards, rising; the hand's size; known cards, as IN or OUT; two programs.
class View:
    def __init__(self):
        self.show(0, [])

    def show(self, size, unseen):
        self.size = size
        self.unseen = unseen
        self.known = {}
        self.set_conditions(ANY_PROGRAM, ANY_PROGRAM)

    def set_conditions(self, hand_program, rest_program):
        self.hand_program = hand_program
        self.rest_program = rest_program
        # Made when it's first asked for: many calls ask of the same conditions.
        self.made_fitting = None

    def fitting(self):
        if self.made_fitting is None:
            self.made_fitting = fitting_of(self.unseen, self.size, self.hand_program, self.rest_program)
        return self.made_fitting

    def known_count(self, state):
        return list(self.known.values()).count(state)

    # How many cards more may become known in this way.
    def room(self, state):
        most = self.size if state == IN else len(self.unseen) - self.size
        return most - self.known_count(state)

    def hand_count(self):
        return count_all(len(self.unseen) - len(self.known), self.room(IN))

    def fitting_count(self):
        return count_fitting(self.fitting(), self.unseen, self.known)

    # How many hands fit and have this unseen card.
    def fitting_count_with(self, card):
        if self.known.get(card) == OUT:
            return 0
        known = dict(self.known)
        known[card] = IN
        return count_fitting(self.fitting(), self.unseen, known)

    def kth_fitting(self, k):
        return kth_hand(self.fitting(), self.unseen, self.known, k)
