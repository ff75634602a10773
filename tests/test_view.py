"""Promises 0, 1 and 2: view, give, take; and the object before the first call."""

import unittest

from plain import (CHANCE, COUNT, DECK, HUGE, Unchanged, ask, card, give, hand, holds, kth, last, rest, take, view,
                   view_of)


class NewObject(unittest.TestCase):
    def test_nothing_is_unseen_and_the_one_hand_is_empty(self):
        self.assertEqual(ask(COUNT, CHANCE, kth(0), kth(1)), [[0, 1, 1], [0, 1, 1], [0], [-7]])

    def test_no_card_is_unseen(self):
        calls = [holds(0), give(51, 1), give(0, 0), take(7)]
        self.assertEqual(ask(*calls), [[-3]] * 4)

    def test_conditions_may_be_asked_of_the_empty_hand(self):
        self.assertEqual(last(hand("c = 0 & pts = 0"), rest("exact 0000"), COUNT), [0, 1, 1])
        self.assertEqual(last(hand("c > 0"), COUNT), [0, 0, 1])


class ViewCall(Unchanged):
    def test_unseen_is_what_is_not_seen(self):
        self.assertEqual(ask(view(13, range(13)), COUNT), [[0, 39], [0, 8122425444, 8122425444]])
        self.assertEqual(ask(view(2, range(2, 52)), kth(0)), [[0, 2], [0, 0, 1]])
        self.assertEqual(last(view(1, [number for number in DECK if number != 30]), kth(0)), [0, 30])

    def test_order_of_seen_does_not_matter(self):
        self.assertEqual(ask(view(3, list(range(51, 6, -1))), kth(0)), [[0, 7], [0, 0, 1, 2]])

    def test_all_seen(self):
        self.assertEqual(ask(view(0, DECK), COUNT), [[0, 0], [0, 1, 1]])

    def test_it_forgets_what_was_known_and_asked(self):
        before = [view_of(2, range(6)), give(0, 1), give(1, 0), hand("C4"), rest("C5")]
        self.assertEqual(ask(*before, COUNT)[-1], [0, 1, 4])
        self.assertEqual(ask(*before, view_of(3, range(2, 8)), COUNT)[-2:], [[0, 6], [0, 20, 20]])
        self.assertEqual(ask(*before, view_of(2, range(6)), COUNT, take(0), take(1))[-3:],
                         [[0, 15, 15], [-4], [-4]])
        self.assertEqual(last(*before, view_of(2, range(6)), hand("C2 & D2 & H2")), [0])

    def test_bounds_of_unseen(self):
        self.assertEqual(last(view(0, range(13))), [0, 39])
        self.assertEqual(last(view(0, range(12))), [-2])
        self.assertEqual(last(view(0, [])), [-2])
        self.assertEqual(last(view(13, range(39))), [0, 13])
        self.assertEqual(last(view(13, range(40))), [-2])
        self.assertEqual(last(view(1, DECK)), [-2])

    def test_refusals_leave_all_as_it_was(self):
        setup = [view_of(4, range(3, 14)), give(5, 1), give(6, 0), hand("pts >= 0 & C7"), rest("c > 2 | D2")]
        self.assert_refused(setup, view(13, range(12)), -2)
        self.assert_refused(setup, view(13, range(45)), -2)
        for x in (-1, 14, HUGE, -HUGE):
            self.assert_refused(setup, view(x, range(20)), -1)
        for wrong in (-1, 52, HUGE, -HUGE, 3):
            self.assert_refused(setup, view(5, list(range(20)) + [wrong]), -1)
        self.assert_refused(setup, view(0, [0] * 60), -1)

    def test_ranges_are_looked_at_first(self):
        self.assertEqual(last(view(14, [])), [-1])
        self.assertEqual(last(view(0, [1, 1])), [-1])
        self.assertEqual(last(view(13, list(range(52)) + [60])), [-1])


class GiveCall(Unchanged):
    setup = [view_of(3, range(10, 17))]

    def test_known_to_be_in(self):
        self.assertEqual(ask(*self.setup, give(12, 1), COUNT, holds(12), kth(0))[1:],
                         [[0], [0, 15, 15], [0, 1, 1], [0, 10, 11, 12]])

    def test_known_not_to_be_in(self):
        self.assertEqual(ask(*self.setup, give(10, 0), COUNT, holds(10), kth(0))[1:],
                         [[0], [0, 20, 20], [0, 0, 1], [0, 11, 12, 13]])

    def test_all_known(self):
        given = [give(10, 1), give(13, 1), give(16, 1)] + [give(number, 0) for number in (11, 12, 14, 15)]
        self.assertEqual(ask(*self.setup, *given, COUNT, kth(0))[-2:], [[0, 1, 1], [0, 10, 13, 16]])

    def test_no_room(self):
        full = self.setup + [give(10, 1), give(11, 1), give(12, 1)]
        self.assert_refused(full, give(13, 1), -5)
        self.assertEqual(last(*full, give(13, 0)), [0])
        empty = self.setup + [give(number, 0) for number in (10, 11, 12, 13)]
        self.assert_refused(empty, give(14, 0), -5)
        self.assertEqual(last(*empty, give(14, 1)), [0])

    def test_no_room_in_an_empty_hand_or_rest(self):
        self.assertEqual(ask(view_of(0, [4, 5]), give(4, 1), give(4, 0), give(5, 0)), [[0, 2], [-5], [0], [0]])
        self.assertEqual(ask(view_of(2, [4, 5]), give(4, 0), give(4, 1), give(5, 1)), [[0, 2], [-5], [0], [0]])

    def test_known_already_either_way(self):
        known = self.setup + [give(10, 1), give(16, 0)]
        for number in (10, 16):
            for there in (0, 1):
                self.assert_refused(known, give(number, there), -4)

    def test_known_already_goes_before_no_room(self):
        full = self.setup + [give(10, 1), give(11, 1), give(12, 1)]
        self.assertEqual(last(*full, give(10, 1)), [-4])

    def test_not_unseen(self):
        for number in (0, 9, 17, 51):
            for there in (0, 1):
                self.assert_refused(self.setup, give(number, there), -3)
        full = self.setup + [give(10, 1), give(11, 1), give(12, 1)]
        self.assertEqual(last(*full, give(9, 1)), [-3])

    def test_ranges(self):
        for number, there in ((-1, 0), (52, 1), (10, 2), (10, -1), (HUGE, 0), (10, -HUGE), (0, 2)):
            self.assert_refused(self.setup, give(number, there), -1)


class TakeCall(Unchanged):
    setup = [view_of(3, range(10, 17)), give(10, 1), give(16, 0)]

    def test_nothing_is_known_any_more(self):
        self.assertEqual(ask(*self.setup, COUNT, take(10), COUNT, take(16), COUNT)[3:],
                         [[0, 10, 10], [0], [0, 20, 20], [0], [0, 35, 35]])

    def test_taken_may_be_given_anew(self):
        self.assertEqual(ask(*self.setup, take(10), give(10, 0), holds(10))[3:], [[0], [0], [0, 0, 1]])

    def test_take_makes_room(self):
        full = self.setup + [give(11, 1), give(12, 1)]
        self.assertEqual(ask(*full, give(13, 1), take(12), give(13, 1))[-3:], [[-5], [0], [0]])

    def test_nothing_known(self):
        self.assert_refused(self.setup, take(11), -4)
        self.assertEqual(last(*self.setup, take(10), take(10)), [-4])

    def test_not_unseen(self):
        self.assert_refused(self.setup, take(0), -3)
        self.assert_refused(self.setup, take(card("SA")), -3)

    def test_ranges(self):
        for number in (-1, 52, HUGE, -HUGE):
            self.assert_refused(self.setup, take(number), -1)


if __name__ == "__main__":
    unittest.main()
