"""The object that calls are made on: what is unseen, what is known, what is asked."""

from unseenhands.counting import IN, OUT, count_all, count_fitting, fitting_tallies, kth_hand, place_of_hand
from unseenhands.fitting import fitting_of, meets
from unseenhands.grammar import ANY_PROGRAM


# Unseen cards, rising; the hand's size; known cards, as IN or OUT; two programs.
class View:
    def __init__(self):
        self.show(0, [])

    def show(self, size, unseen):
        self.size = size
        self.unseen = unseen
        self.known = {}
        self.set_conditions(ANY_PROGRAM, ANY_PROGRAM)

    def set_conditions(self, hand_program, rest_program):
        self.hand_program = hand_program
        self.rest_program = rest_program
        # Made when it's first asked for: many calls ask of the same conditions.
        self.made_fitting = None

    def fitting(self):
        if self.made_fitting is None:
            self.made_fitting = fitting_of(self.unseen, self.size, self.hand_program, self.rest_program)
        return self.made_fitting

    # The cards that are known so, rising.
    def known_cards(self, state):
        return sorted([card for card, known_state in self.known.items() if known_state == state])

    # How many cards more may become known in this way.
    def room(self, state):
        most = self.size if state == IN else len(self.unseen) - self.size
        return most - len(self.known_cards(state))

    def hand_count(self):
        return count_all(len(self.unseen) - len(self.known), self.room(IN))

    def fitting_count(self):
        return count_fitting(self.fitting(), self.unseen, self.known)

    # How many hands fit and have this unseen card.
    def fitting_count_with(self, card):
        if self.known.get(card) == OUT:
            return 0
        known = dict(self.known)
        known[card] = IN
        return count_fitting(self.fitting(), self.unseen, known)

    def kth_fitting(self, k):
        return kth_hand(self.fitting(), self.unseen, self.known, k)

    def is_hand(self, cards):
        if len(cards) != self.size or not all([card in self.unseen for card in cards]):
            return False
        return all([(card in cards) == (state == IN) for card, state in self.known.items()])

    # Whether this hand fits.
    def fits(self, hand):
        left = [card for card in self.unseen if card not in hand]
        return meets(self.hand_program, hand) and meets(self.rest_program, left)

    def place_of(self, hand):
        return place_of_hand(self.fitting(), self.unseen, self.known, hand)

    # The rows of lengths of the hands that fit, with their tallies.
    def tallies(self):
        return fitting_tallies(self.fitting(), self.unseen, self.known)

    def program(self, which):
        return self.rest_program if which == 1 else self.hand_program

    # The first hand that fits and doesn't meet the condition with this program, or None.
    def first_denying(self, program):
        denied = self.hand_program + program + (("not",), ("and",))
        fitting = fitting_of(self.unseen, self.size, denied, self.rest_program)
        if count_fitting(fitting, self.unseen, self.known) == 0:
            return None
        return kth_hand(fitting, self.unseen, self.known, 0)
