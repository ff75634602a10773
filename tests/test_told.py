"""told: x, the unseen cards and what is known of them, after every call that may change these."""

import random
import unittest

from plain import (COUNT, DECK, TOLD, Unchanged, ask, give, hand, implies, kth, last, rest, take, view, view_of)


class Told(Unchanged):
    setup = [view_of(4, range(10, 20))]

    def test_before_the_first_call(self):
        self.assertEqual(last(TOLD), [0, 0, 0, 0, 0])

    def test_after_view(self):
        self.assertEqual(last(*self.setup, TOLD), [0, 4, 10, 0, 0])
        self.assertEqual(last(view(13, range(13)), TOLD), [0, 13, 39, 0, 0])
        self.assertEqual(last(view(0, DECK), TOLD), [0, 0, 0, 0, 0])

    def test_after_give_both_rising(self):
        given = [give(19, 1), give(12, 0), give(10, 1), give(11, 0), give(15, 1)]
        self.assertEqual(ask(*self.setup, given[0], TOLD, given[1], TOLD, given[2], TOLD, given[3], TOLD, given[4],
                             TOLD)[2::2],
                         [[0, 4, 10, 1, 19, 0], [0, 4, 10, 1, 19, 1, 12], [0, 4, 10, 2, 10, 19, 1, 12],
                          [0, 4, 10, 2, 10, 19, 2, 11, 12], [0, 4, 10, 3, 10, 15, 19, 2, 11, 12]])

    def test_only_those_that_are_known_not_to_be_in_it(self):
        self.assertEqual(last(*self.setup, give(13, 0), TOLD), [0, 4, 10, 0, 1, 13])

    def test_after_take(self):
        given = [give(19, 1), give(12, 0), give(10, 1), give(11, 0)]
        self.assertEqual(ask(*self.setup, *given, take(19), TOLD, take(11), TOLD, give(19, 0), TOLD, take(10),
                             TOLD)[6::2],
                         [[0, 4, 10, 1, 10, 2, 11, 12], [0, 4, 10, 1, 10, 1, 12], [0, 4, 10, 1, 10, 2, 12, 19],
                          [0, 4, 10, 0, 2, 12, 19]])

    def test_all_known(self):
        given = [give(number, 1) for number in (19, 18, 17, 16)] + [give(number, 0) for number in range(15, 9, -1)]
        self.assertEqual(last(*self.setup, *given, TOLD), [0, 4, 10, 4, 16, 17, 18, 19, 6, 10, 11, 12, 13, 14, 15])

    def test_a_view_forgets(self):
        self.assertEqual(last(*self.setup, give(10, 1), give(11, 0), view_of(2, [10, 11]), TOLD), [0, 2, 2, 0, 0])

    def test_after_refusals(self):
        known = self.setup + [give(19, 1), give(12, 0)]
        for call in (view(14, []), view(5, []), view(5, range(50)), view(2, [1, 1]), give(19, 0), give(12, 1),
                     give(9, 1), give(52, 0), give(14, 2), take(14), take(9), take(-1), kth(10 ** 12), hand("?"),
                     rest("?"), implies("?")):
            told = ask(*known, call, TOLD)
            self.assertLess(told[-2][0], 0, call)
            self.assertEqual(told[-1], [0, 4, 10, 1, 19, 1, 12], call)
        full = self.setup + [give(number, 1) for number in range(10, 14)]
        self.assertEqual(ask(*full, give(14, 1), TOLD)[-2:], [[-5], [0, 4, 10, 4, 10, 11, 12, 13, 0]])

    def test_nothing_is_changed(self):
        self.assert_unchanged(self.setup + [give(19, 1), give(12, 0), hand("C7")], [TOLD, TOLD])

    def test_random_lines(self):
        dice = random.Random(61)
        for _ in range(50):
            unseen = sorted(dice.sample(DECK, dice.randint(5, 39)))
            x = dice.randint(0, min(13, len(unseen)))
            calls = [view_of(x, unseen), TOLD]
            known = {}
            expected = [[0, x, len(unseen), 0, 0]]
            for _ in range(49):
                number = dice.randrange(52)
                there = dice.randrange(2)
                room = (x if there else len(unseen) - x) - list(known.values()).count(there)
                if dice.randrange(3) == 0:
                    calls += [take(number), TOLD]
                    known.pop(number, None)
                else:
                    calls += [give(number, there), TOLD]
                    if number in unseen and number not in known and room > 0:
                        known[number] = there
                inside = sorted(one for one in known if known[one])
                outside = sorted(one for one in known if not known[one])
                expected.append([0, x, len(unseen), len(inside), *inside, len(outside), *outside])
            self.assertEqual(ask(*calls)[1::2], expected)

    def test_counts_go_with_it(self):
        self.assertEqual(ask(*self.setup, give(10, 1), give(11, 0), TOLD, COUNT)[-2:],
                         [[0, 4, 10, 1, 10, 1, 11], [0, 56, 56]])


if __name__ == "__main__":
    unittest.main()
