"""The interface: one list of calls in, one list of answers out."""

import random
import unittest

from plain import COUNT, DECK, ask, give, hand, holds, kth, last, rest, take, view, view_of
from unseenhands.table import answers


def flat(*calls):
    return [number for call in calls for number in call]


# One call of each kind that comes later, with numbers that would mislead a wrong step.
LATER = [
    [9, 3, 0, 1, 2], [9, 0], [9, 60] + [5] * 60, [10, 5], [11], [12, 3], [13, 0, 2, 5, 6], [13, 1, 0],
    [13, -5, 3, 10 ** 18, 5, 5], [14, 3, 97, 110, 121], [14, 0], [14, 500] + [5] * 500, [15, 1], [15, 5], [16],
]


class Form(unittest.TestCase):
    def test_each_answer_has_its_length_before_it(self):
        line = flat(view_of(2, range(5)), give(0, 1), holds(1), hand("c >"), hand("C4"), COUNT, kth(0), kth(9))
        self.assertEqual(answers(line), [2, 0, 5, 1, 0, 3, 0, 1, 4, 1, -1003, 1, 0, 3, 0, 1, 4, 3, 0, 0, 2, 1, -7])

    def test_one_call(self):
        self.assertEqual(answers([5]), [3, 0, 1, 1])
        self.assertEqual(answers([0, 0, 0]), [1, -2])
        self.assertEqual(answers([3, 0]), [1, -1000])

    def test_answers_are_plain_whole_numbers(self):
        line = flat(view(13, range(13)), give(13, 1), hand("bal & SA"), rest("pts > 5"), COUNT, [6], holds(51), kth(3))
        told = answers(line)
        self.assertIs(type(told), list)
        self.assertTrue(all(type(number) is int for number in told))

    def test_later_calls_are_stepped_over(self):
        for later in LATER:
            told = answers(flat(view_of(2, range(5)), later, COUNT))
            self.assertEqual(told[:3], [2, 0, 5])
            self.assertEqual(told[-4:], [3, 0, 10, 10])
        told = answers(flat(view_of(2, range(5)), *LATER, COUNT))
        self.assertEqual(told[-4:], [3, 0, 10, 10])

    def test_rows_of_all_sizes_are_stepped_over(self):
        calls = [view(1, [5] * 60), view(5, []), hand([5] * 500), rest([5] * 401), hand([]), give(5, 5), take(5), COUNT]
        self.assertEqual(ask(*calls), [[-1], [-2], [-1], [-1], [-1000], [-1], [-3], [0, 1, 1]])


def hundred_calls():
    calls = [view(13, range(0, 52, 4))]
    texts = ["pts 12-14 & h >= 3", "bal", "SA | !HK", "c + d > h + s", "c >", "exact 4333"]
    for step in range(19):
        calls += [hand(texts[step % 6]), rest(texts[(step + 1) % 3]), COUNT, give(step * 2 + 1, step % 2),
                  holds(step * 2 + 1)]
    return calls + [kth(0), kth(10), take(1), [6]]


class Lines(unittest.TestCase):
    def test_a_hundred_calls(self):
        calls = hundred_calls()
        self.assertEqual(len(calls), 100)
        told = ask(*calls)
        self.assertEqual(len(told), 100)
        self.assertEqual(told[0], [0, 39])
        self.assertEqual(told[3], ask(*calls[:4])[3])
        # Each call is answered as if the line had ended with it.
        for end in (17, 40, 61, 83, 97):
            self.assertEqual(ask(*calls[:end]), told[:end])

    def test_a_hundred_views(self):
        told = ask(*[view_of(step % 14, range(step % 27 + 13)) for step in range(100)])
        self.assertEqual(told, [[0, step % 27 + 13] for step in range(100)])

    def test_the_list_is_as_it_was(self):
        line = flat(*hundred_calls())
        kept = list(line)
        answers(line)
        self.assertEqual(line, kept)

    def test_the_same_list_twice(self):
        line = flat(*hundred_calls())
        self.assertEqual(answers(line), answers(line))

    def test_nothing_is_kept(self):
        before = answers(flat(COUNT, holds(3), hand("C2&D2&H2"), rest("C2")))
        answers(flat(view_of(3, range(9)), give(3, 1), hand("S2 & S3"), rest("S4"), COUNT))
        self.assertEqual(answers(flat(COUNT, holds(3), hand("C2&D2&H2"), rest("C2"))), before)

    def test_random_lines_go_on_where_they_are_cut(self):
        dice = random.Random(8)
        for _ in range(20):
            calls = [view_of(dice.randint(0, 8), dice.sample(DECK, 12))]
            for _ in range(40):
                calls.append(dice.choice([
                    give(dice.randrange(-1, 53), dice.randrange(3)), take(dice.randrange(52)), COUNT, [6],
                    hand(dice.choice(["any", "c > 1", "C2 | D2", "pts <"])),
                    rest(dice.choice(["S2|S3", "!bal", "s>9"])),
                    holds(dice.randrange(52)), view_of(dice.randint(0, 13), dice.sample(DECK, 12)),
                ]))
            told = ask(*calls)
            cut = dice.randrange(1, len(calls))
            self.assertEqual(last(*calls[:cut]), told[cut - 1])


if __name__ == "__main__":
    unittest.main()
