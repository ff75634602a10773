"""All seventeen calls answered by walking every hand: an object to hold the program against.

Only for small views. It shares nothing with the program but the document.
"""

from plain import (DECK, Walk, bytes_answer, least, mean_answer, meets, points_answer, shapes_answer, spread_of,
                   tokens)
from reading import one_text, place_by_machine


def are_cards(row):
    return all(number in DECK for number in row) and len(row) == len(set(row))


def is_text(row):
    return len(row) <= 400 and all(0 <= byte <= 255 for byte in row)


def named(*texts):
    return {token for text in texts for token in tokens(text) if token[0] in "CDHS"}


class Model:
    def __init__(self):
        self.show(0, [])

    def show(self, x, unseen):
        self.x = x
        self.unseen = unseen
        self.known = {}
        self.texts = ["any", "any"]

    def known_so(self, there):
        return sorted(number for number in self.known if self.known[number] == there)

    def walk(self):
        return Walk(self.x, self.unseen, self.known_so(1), self.known_so(0), *self.texts)

    def fitting(self):
        return self.walk().fitting

    def answer(self, call):
        names = ("view", "give", "take", "hand", "rest", "count", "chance", "holds", "kth", "place", "shapes", "points",
                 "mean", "meets", "implies", "print", "told")
        return getattr(self, "call_" + names[call[0]])(call[1:])

    def call_view(self, numbers):
        x, seen = numbers[0], numbers[2:]
        if x not in range(14) or not are_cards(seen):
            return [-1]
        unseen = [number for number in DECK if number not in seen]
        if len(unseen) > 39 or len(unseen) < x:
            return [-2]
        self.show(x, unseen)
        return [0, len(unseen)]

    def call_give(self, numbers):
        number, there = numbers
        if number not in DECK or there not in (0, 1):
            return [-1]
        if number not in self.unseen:
            return [-3]
        if number in self.known:
            return [-4]
        most = self.x if there else len(self.unseen) - self.x
        if len(self.known_so(there)) == most:
            return [-5]
        self.known[number] = there
        return [0]

    def call_take(self, numbers):
        number = numbers[0]
        if number not in DECK:
            return [-1]
        if number not in self.unseen:
            return [-3]
        if number not in self.known:
            return [-4]
        self.known.pop(number)
        return [0]

    def refused_text(self, row, others):
        if not is_text(row):
            return [-1]
        text = bytes(row).decode("latin-1")
        wrong = place_by_machine(text)
        if wrong is not None:
            return [-1000 - wrong]
        return [-9] if len(named(text, *others)) > 3 else None

    def set_text(self, which, row):
        refused = self.refused_text(row, [self.texts[1 - which]])
        if refused is None:
            self.texts[which] = bytes(row).decode("latin-1")
        return refused or [0]

    def call_hand(self, numbers):
        return self.set_text(0, numbers[1:])

    def call_rest(self, numbers):
        return self.set_text(1, numbers[1:])

    def call_count(self, numbers):
        walk = self.walk()
        return [0, len(walk.fitting), len(walk.hands)]

    def call_chance(self, numbers):
        walk = self.walk()
        return least(len(walk.fitting), len(walk.hands))

    def call_holds(self, numbers):
        number = numbers[0]
        if number not in DECK:
            return [-1]
        if number not in self.unseen:
            return [-3]
        fitting = self.fitting()
        return least(sum(number in cards for cards in fitting), len(fitting)) if fitting else [-7]

    def call_kth(self, numbers):
        k = numbers[0]
        if not 0 <= k <= 10 ** 12:
            return [-1]
        fitting = self.fitting()
        return [0, *fitting[k]] if k < len(fitting) else [-7]

    def call_place(self, numbers):
        row = numbers[1:]
        if not are_cards(row):
            return [-1]
        fitting = self.fitting()
        cards = tuple(sorted(row))
        return [0, fitting.index(cards)] if cards in fitting else [-7]

    def call_shapes(self, numbers):
        limit = numbers[0]
        return shapes_answer(spread_of(self.fitting()), limit) if limit in range(1, 21) else [-1]

    def call_points(self, numbers):
        return points_answer(spread_of(self.fitting()))

    def call_mean(self, numbers):
        what = numbers[0]
        return mean_answer(spread_of(self.fitting()), what) if what in range(5) else [-1]

    def call_meets(self, numbers):
        which, row = numbers[0], numbers[2:]
        if which not in (0, 1) or not are_cards(row):
            return [-1]
        return [0, int(meets(self.texts[which], row))]

    def call_implies(self, numbers):
        row = numbers[1:]
        refused = self.refused_text(row, self.texts)
        if refused is not None:
            return refused
        text = bytes(row).decode("latin-1")
        denying = [cards for cards in self.fitting() if not meets(text, cards)]
        return [0, 0, *denying[0]] if denying else [0, 1]

    def call_print(self, numbers):
        which = numbers[0]
        return bytes_answer(one_text(self.texts[which])) if which in (0, 1) else [-1]

    def call_told(self, numbers):
        inside, outside = self.known_so(1), self.known_so(0)
        return [0, self.x, len(self.unseen), len(inside), *inside, len(outside), *outside]


def answers_of_model(calls):
    model = Model()
    return [model.answer(call) for call in calls]
