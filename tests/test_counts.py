"""Promises 5 to 8: count, chance, holds, kth, against a walk over all hands."""

import random
import unittest

from plain import (CHANCE, COUNT, DECK, HUGE, Unchanged, Walk, ask, card, give, hand, holds, kth, last, least,
                   random_walk, rest, telling_walk, view_of)


class AgainstWalk(unittest.TestCase):
    def setUp(self):
        dice = random.Random(5)
        self.walks = [random_walk(dice) for _ in range(60)] + [telling_walk(dice) for _ in range(80)]

    def test_count(self):
        for walk, unseen in self.walks:
            self.assertEqual(last(*walk.setup, COUNT), [0, len(walk.fitting), len(walk.hands)])

    def test_chance(self):
        for walk, unseen in self.walks:
            self.assertEqual(last(*walk.setup, CHANCE), least(len(walk.fitting), len(walk.hands)))

    def test_holds(self):
        for walk, unseen in self.walks:
            told = ask(*walk.setup, *[holds(number) for number in DECK])[-52:]
            for number in DECK:
                having = sum(number in cards for cards in walk.fitting)
                if number not in unseen:
                    self.assertEqual(told[number], [-3])
                elif not walk.fitting:
                    self.assertEqual(told[number], [-7])
                else:
                    self.assertEqual(told[number], least(having, len(walk.fitting)))

    def test_kth(self):
        dice = random.Random(6)
        for walk, unseen in self.walks:
            count = len(walk.fitting)
            numbers = [0, max(0, count - 1), count, dice.randint(0, count)]
            told = ask(*walk.setup, *[kth(k) for k in numbers])[-4:]
            for k, answer in zip(numbers, told):
                self.assertEqual(answer, [0, *walk.fitting[k]] if k < count else [-7])

    def test_all_hands_of_one_view_in_order(self):
        walk = Walk(3, [0, 5, 12, 13, 30, 38, 51, 50], [], [13], "pts > 0 | H6", "s >= 1 | C2")
        told = []
        for start in range(0, len(walk.fitting) + 1, 4):
            told += ask(*walk.setup, *[kth(start + step) for step in range(4)])[-4:]
        self.assertEqual([answer[1:] for answer in told if answer[0] == 0], [list(cards) for cards in walk.fitting])
        self.assertTrue(all(answer == [-7] for answer in told[len(walk.fitting):]))


class Count(unittest.TestCase):
    def test_hands_are_counted_whether_they_fit_or_not(self):
        self.assertEqual(last(view_of(2, range(5)), give(0, 1), hand("C2 & C3"), COUNT), [0, 1, 4])
        self.assertEqual(last(view_of(2, range(5)), give(4, 0), rest("!any"), COUNT), [0, 0, 6])

    def test_hand_of_none_and_hand_of_all(self):
        self.assertEqual(last(view_of(0, range(20)), rest("c = 13 & d = 7"), COUNT), [0, 1, 1])
        self.assertEqual(last(view_of(13, range(13)), hand("pts = 10 & c = 13"), COUNT), [0, 1, 1])

    def test_known_cards_count_for_conditions(self):
        setup = [view_of(2, [card("CA"), card("C2"), card("C3")]), give(card("CA"), 1)]
        self.assertEqual(last(*setup, hand("CA & pts = 4"), COUNT), [0, 2, 2])
        self.assertEqual(last(*setup, rest("CA | pts > 0"), COUNT), [0, 0, 2])
        self.assertEqual(last(*setup, take_back(), hand("CA & pts = 4"), COUNT), [0, 2, 3])

    def test_given_after_the_condition(self):
        setup = [view_of(2, range(10, 14)), hand("CA"), COUNT]
        self.assertEqual(ask(*setup, give(12, 0), COUNT)[-3:], [[0, 3, 6], [0], [0, 0, 3]])
        self.assertEqual(ask(*setup, give(12, 1), COUNT)[-3:], [[0, 3, 6], [0], [0, 3, 3]])


def take_back():
    return [2, card("CA")]


class Chance(unittest.TestCase):
    def test_least_form(self):
        setup = [view_of(2, range(6))]
        self.assertEqual(last(*setup, hand("C2"), CHANCE), [0, 1, 3])
        self.assertEqual(last(*setup, hand("C2 & C3"), CHANCE), [0, 1, 15])
        self.assertEqual(last(*setup, CHANCE), [0, 1, 1])

    def test_nothing_fits(self):
        self.assertEqual(last(view_of(2, range(6)), hand("!any"), CHANCE), [0, 0, 1])


class Holds(unittest.TestCase):
    setup = [view_of(3, range(8)), give(0, 1), give(1, 0), hand("C4 | C5")]

    def test_fractions(self):
        self.assertEqual(ask(*self.setup, *[holds(number) for number in range(8)])[4:],
                         [[0, 1, 1], [0, 0, 1], [0, 5, 9], [0, 5, 9]] + [[0, 2, 9]] * 4)

    def test_refusals_in_order(self):
        nothing = self.setup + [rest("!any")]
        self.assertEqual(last(*nothing, holds(3)), [-7])
        self.assertEqual(last(*nothing, holds(0)), [-7])
        self.assertEqual(last(*nothing, holds(8)), [-3])
        for number in (-1, 52, HUGE, -HUGE):
            self.assertEqual(last(*nothing, holds(number)), [-1])


class Kth(unittest.TestCase):
    setup = [view_of(3, range(8)), give(0, 1), give(1, 0), hand("C4 | C5")]

    def test_order(self):
        self.assertEqual(ask(*self.setup, kth(0), kth(1), kth(4), kth(8))[4:],
                         [[0, 0, 2, 3], [0, 0, 2, 4], [0, 0, 2, 7], [0, 0, 3, 7]])

    def test_no_such_hand(self):
        self.assertEqual(last(*self.setup, kth(9)), [-7])
        self.assertEqual(last(*self.setup, kth(10 ** 12)), [-7])
        self.assertEqual(last(*self.setup, rest("!any"), kth(0)), [-7])

    def test_ranges(self):
        for k in (-1, 10 ** 12 + 1, HUGE, -HUGE):
            self.assertEqual(last(*self.setup, kth(k)), [-1])

    def test_empty_hand(self):
        self.assertEqual(ask(view_of(0, range(9)), kth(0), kth(1)), [[0, 9], [0], [-7]])


class NothingChanged(Unchanged):
    setup = [view_of(3, range(8, 19)), give(10, 1), give(11, 0), hand("CA | D4"), rest("pts > 1")]

    def test_by_counts(self):
        self.assert_unchanged(self.setup, [COUNT, CHANCE, holds(10), holds(11), holds(12)])

    def test_by_refused_holds(self):
        self.assert_unchanged(self.setup, [holds(0), holds(-1), holds(52)])

    def test_by_kth(self):
        for k in (0, 5, 10 ** 6, -1, HUGE):
            self.assert_unchanged(self.setup, [kth(k)])


if __name__ == "__main__":
    unittest.main()
