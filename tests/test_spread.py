"""Promises 10 to 12: shapes, points, mean, against a walk over all hands."""

import random
import unittest

from plain import (HUGE, POINTS, Unchanged, ask, card, give, hand, last, mean, mean_answer, points_answer,
                   random_walk, rest, shapes, shapes_answer, spread_of, take, telling_walk, view_of)

# Each suit alike, so that many shapes have equal numbers of hands.
ALIKE = [suit * 13 + rank for suit in range(4) for rank in (0, 5, 12)]


class AgainstWalk(unittest.TestCase):
    def setUp(self):
        dice = random.Random(21)
        self.walks = [random_walk(dice) for _ in range(50)] + [telling_walk(dice) for _ in range(80)]

    def test_shapes(self):
        for walk, unseen in self.walks:
            spread = spread_of(walk.fitting)
            told = ask(*walk.setup, *[shapes(limit) for limit in range(1, 21)])[-20:]
            self.assertEqual(told, [shapes_answer(spread, limit) for limit in range(1, 21)])

    def test_points(self):
        for walk, unseen in self.walks:
            self.assertEqual(last(*walk.setup, POINTS), points_answer(spread_of(walk.fitting)))

    def test_mean(self):
        for walk, unseen in self.walks:
            spread = spread_of(walk.fitting)
            told = ask(*walk.setup, *[mean(what) for what in range(5)])[-5:]
            self.assertEqual(told, [mean_answer(spread, what) for what in range(5)])


class Shapes(Unchanged):
    setup = [view_of(2, [card(signs) for signs in ("C2", "C3", "D2", "H2", "H3", "S2")])]

    def test_greater_number_first(self):
        told = last(*self.setup, shapes(20))
        self.assertEqual(told, [0, 8, 8,
                                0, 1, 0, 1, 4,
                                1, 1, 0, 0, 2,
                                1, 0, 0, 1, 2,
                                0, 1, 1, 0, 2,
                                0, 0, 1, 1, 2,
                                1, 0, 1, 0, 1,
                                0, 2, 0, 0, 1,
                                0, 0, 0, 2, 1])

    def test_equal_numbers_more_spades_then_hearts_then_diamonds(self):
        setup = [view_of(1, [0, 13, 26, 39])]
        self.assertEqual(last(*setup, shapes(4)),
                         [0, 4, 4, 1, 0, 0, 0, 1, 0, 1, 0, 0, 1, 0, 0, 1, 0, 1, 0, 0, 0, 1, 1])
        setup = [view_of(5, ALIKE)]
        told = last(*setup, shapes(20))
        rows = [tuple(told[at:at + 5]) for at in range(3, len(told), 5)]
        self.assertEqual(rows[:4], [(2, 1, 1, 1, 81), (1, 2, 1, 1, 81), (1, 1, 2, 1, 81), (1, 1, 1, 2, 81)])
        self.assertEqual(rows[4:7], [(2, 2, 1, 0, 27), (2, 2, 0, 1, 27), (2, 1, 2, 0, 27)])

    def test_limits_with_fewer_and_with_more(self):
        self.assertEqual(last(*self.setup, shapes(1)), [0, 8, 1, 0, 1, 0, 1, 4])
        for limit in range(1, 21):
            told = last(*self.setup, shapes(limit))
            self.assertEqual(told[:3], [0, 8, min(limit, 8)])
            self.assertEqual(told, [0, 8, min(limit, 8)] + last(*self.setup, shapes(20))[3:3 + 5 * limit])
        for limit in range(1, 21):
            told = last(view_of(5, ALIKE), shapes(limit))
            self.assertEqual(told[:3], [0, 40, limit])
            self.assertEqual(len(told), 3 + 5 * limit)

    def test_no_hand_fits(self):
        self.assertEqual(last(*self.setup, hand("!any"), shapes(1)), [0, 0, 0])
        self.assertEqual(last(*self.setup, rest("c > 9"), shapes(20)), [0, 0, 0])

    def test_empty_hand(self):
        self.assertEqual(last(shapes(3)), [0, 1, 1, 0, 0, 0, 0, 1])

    def test_known_cards(self):
        setup = self.setup + [give(card("S2"), 1), give(card("D2"), 0)]
        self.assertEqual(last(*setup, shapes(5)), [0, 2, 2, 1, 1, 0, 0, 2, 1, 0, 0, 1, 2])
        self.assertEqual(last(*setup, take(card("S2")), take(card("D2")), shapes(5)), last(*self.setup, shapes(5)))

    def test_both_conditions(self):
        self.assertEqual(last(*self.setup, hand("h = 1"), rest("s = 1"), shapes(9)),
                         [0, 2, 2, 0, 1, 0, 1, 4, 0, 1, 1, 0, 2])

    def test_ranges(self):
        for limit in (0, 21, -1, HUGE, -HUGE):
            self.assert_refused(self.setup, shapes(limit), -1)
        self.assertEqual(last(*self.setup, hand("!any"), shapes(0)), [-1])

    def test_nothing_is_changed(self):
        self.assert_unchanged(self.setup + [hand("C2 | pts > 3")], [shapes(1), shapes(20)])


class Points(Unchanged):
    setup = [view_of(2, [card(signs) for signs in ("C2", "CA", "DK", "HK", "SJ")])]

    def test_lower_first(self):
        self.assertEqual(last(*self.setup, POINTS), [0, 6, 1, 1, 3, 2, 4, 3, 5, 1, 6, 1, 7, 2])

    def test_none_and_all(self):
        self.assertEqual(last(view_of(2, range(5)), POINTS), [0, 1, 0, 10])
        self.assertEqual(last(view_of(13, range(13)), POINTS), [0, 1, 10, 1])

    def test_no_hand_fits(self):
        self.assertEqual(last(*self.setup, hand("!any"), POINTS), [0, 0])
        self.assertEqual(last(*self.setup, rest("pts > 12"), POINTS), [0, 0])

    def test_empty_hand(self):
        self.assertEqual(last(POINTS), [0, 1, 0, 1])

    def test_known_cards_and_conditions(self):
        setup = self.setup + [give(card("CA"), 1)]
        self.assertEqual(last(*setup, POINTS), [0, 3, 4, 1, 5, 1, 7, 2])
        self.assertEqual(last(*setup, hand("!C2"), POINTS), [0, 2, 5, 1, 7, 2])
        self.assertEqual(last(*setup, rest("HK & pts < 7"), POINTS), [0, 2, 5, 1, 7, 1])
        self.assertEqual(last(*setup, take(card("CA")), give(card("CA"), 0), POINTS), [0, 4, 1, 1, 3, 2, 4, 2, 6, 1])

    def test_nothing_is_changed(self):
        self.assert_unchanged(self.setup + [hand("C2 | pts > 3")], [POINTS, POINTS])


class Mean(Unchanged):
    setup = [view_of(2, [card(signs) for signs in ("C2", "CA", "CK", "DK", "HQ", "SJ")])]

    def means(self, *calls):
        return ask(*self.setup, *calls, *[mean(what) for what in range(5)])[-5:]

    def test_least_form(self):
        self.assertEqual(self.means(), [[0, 1, 1], [0, 1, 3], [0, 1, 3], [0, 1, 3], [0, 13, 3]])

    def test_zero_is_0_1(self):
        self.assertEqual(self.means(hand("h = 0 & d = 0 & s = 0")),
                         [[0, 2, 1], [0, 0, 1], [0, 0, 1], [0, 0, 1], [0, 14, 3]])
        self.assertEqual(ask(*[mean(what) for what in range(5)]), [[0, 0, 1]] * 5)

    def test_of_hands_that_fit_only(self):
        self.assertEqual(self.means(hand("CA"), rest("DK | HQ & SJ")),
                         [[0, 7, 5], [0, 1, 5], [0, 1, 5], [0, 1, 5], [0, 29, 5]])

    def test_known_cards(self):
        self.assertEqual(self.means(give(card("CA"), 1), give(card("DK"), 0)),
                         [[0, 3, 2], [0, 0, 1], [0, 1, 4], [0, 1, 4], [0, 11, 2]])

    def test_no_hand_fits(self):
        for what in range(5):
            self.assert_refused(self.setup + [hand("!any")], mean(what), -7)
        self.assert_refused(self.setup + [rest("s > 1")], mean(4), -7)

    def test_ranges(self):
        for what in (-1, 5, HUGE, -HUGE):
            self.assert_refused(self.setup, mean(what), -1)
            self.assert_refused(self.setup + [hand("!any")], mean(what), -1)

    def test_nothing_is_changed(self):
        self.assert_unchanged(self.setup + [hand("C2 | pts > 3")], [mean(what) for what in range(5)])


if __name__ == "__main__":
    unittest.main()
