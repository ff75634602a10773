"""The interface: one list of calls in, one list of answers out; lines of every call mixed."""

import random
import unittest

from model import answers_of_model
from plain import (CHANCE, COUNT, DECK, HUGE, POINTS, TOLD, ask, give, hand, holds, implies, kth, last, mean, met,
                   place, printed, random_text, rest, shapes, take, view, view_of)
from unseenhands.table import answers

ODD_NUMBERS = [-1, 52, 99, HUGE, -HUGE]
WRONG_TEXTS = ["", "c >", "any any", "C2 & ?", "c 5-4", "shape 433", "(any", [300], [32] * 401, [-1], [32] * 500]
MANY_CARDS = ["C2 | D2 | H2 | S2", "C3 & D3", "H5|S5|SA"]


def flat(*calls):
    return [number for call in calls for number in call]


class Form(unittest.TestCase):
    def test_each_answer_has_its_length_before_it(self):
        line = flat(view_of(2, range(5)), give(0, 1), holds(1), hand("c >"), hand("C4"), COUNT, kth(0), kth(9))
        self.assertEqual(answers(line), [2, 0, 5, 1, 0, 3, 0, 1, 4, 1, -1003, 1, 0, 3, 0, 1, 4, 3, 0, 0, 2, 1, -7])
        line = flat(view_of(2, range(5)), place([4, 3]), shapes(2), POINTS, mean(0), met(0, []), implies("C2"),
                    printed(1), TOLD, place([1]))
        self.assertEqual(answers(line), [2, 0, 5, 2, 0, 9, 8, 0, 1, 1, 0, 0, 0, 2, 10, 4, 0, 1, 0, 10, 3, 0, 2, 1,
                                         2, 0, 1, 4, 0, 0, 1, 2, 5, 0, 3, 97, 110, 121, 5, 0, 2, 5, 0, 0, 1, -7])

    def test_one_call(self):
        self.assertEqual(answers([5]), [3, 0, 1, 1])
        self.assertEqual(answers([0, 0, 0]), [1, -2])
        self.assertEqual(answers([3, 0]), [1, -1000])
        self.assertEqual(answers([9, 0]), [2, 0, 0])
        self.assertEqual(answers([10, 1]), [8, 0, 1, 1, 0, 0, 0, 0, 1])
        self.assertEqual(answers([11]), [4, 0, 1, 0, 1])
        self.assertEqual(answers([12, 4]), [3, 0, 0, 1])
        self.assertEqual(answers([13, 1, 0]), [2, 0, 1])
        self.assertEqual(answers([14, 0]), [1, -1000])
        self.assertEqual(answers([15, 0]), [5, 0, 3, 97, 110, 121])
        self.assertEqual(answers([16]), [5, 0, 0, 0, 0, 0])

    def test_answers_are_plain_whole_numbers(self):
        line = flat(view(13, range(13)), give(13, 1), give(14, 0), hand("bal & SA"), rest("pts > 5"), COUNT, CHANCE,
                    holds(51), kth(3), place(range(13, 26)), shapes(20), POINTS, *[mean(what) for what in range(5)],
                    met(0, [51]), met(1, DECK), implies("s > 2"), implies("pts >= 4"), printed(0), printed(1), TOLD)
        told = answers(line)
        self.assertIs(type(told), list)
        self.assertTrue(all(type(number) is int for number in told))

    def test_rows_of_all_sizes_are_stepped_over(self):
        calls = [view(1, [5] * 60), view(5, []), hand([5] * 500), rest([5] * 401), hand([]), give(5, 5), take(5), COUNT,
                 place([5] * 60), place([]), place([5]), met(5, []), met(0, [5] * 60), met(-HUGE, [HUGE, 5, 16]),
                 implies([5] * 500), implies([]), implies([16]), mean(9), shapes(16), printed(16), TOLD]
        self.assertEqual(ask(*calls), [[-1], [-2], [-1], [-1], [-1000], [-1], [-3], [0, 1, 1],
                                       [-1], [0, 0], [-7], [-1], [-1], [-1],
                                       [-1], [-1000], [-1000], [-1], [0, 1, 1, 0, 0, 0, 0, 1], [-1],
                                       [0, 0, 0, 0, 0]])


def random_row(dice, unseen):
    row = dice.sample(unseen, dice.randint(0, len(unseen)))
    kind = dice.randrange(8)
    if kind == 0:
        row.append(dice.choice(ODD_NUMBERS))
    elif kind == 1 and row:
        row.append(row[0])
    elif kind == 2:
        row = dice.sample(DECK, dice.randint(0, 52))
    return row


def random_line_text(dice, cards):
    kind = dice.randrange(12)
    if kind == 0:
        return dice.choice(WRONG_TEXTS)
    if kind == 1:
        return dice.choice(MANY_CARDS)
    return random_text(dice, cards, dice.randint(1, 5))


def random_view(dice):
    """A small one, as the model walks all hands; or one that is refused."""
    kind = dice.randrange(10)
    seen = dice.sample(DECK, dice.randint(42, 47))
    if kind == 0:
        return view(dice.choice([-1, 14, HUGE]), seen)
    if kind == 1:
        return view(dice.randint(0, 13), seen + [dice.choice(ODD_NUMBERS + seen)])
    if kind == 2:
        return view(dice.randint(0, 13), dice.sample(DECK, dice.choice([0, 12, 52])))
    return view(dice.randint(0, 5), seen)


class Maker:
    """Makes calls one by one that suit the object that the line has made so far."""

    def __init__(self, dice):
        self.dice = dice
        self.cards = dice.sample(DECK, 3)
        self.unseen = []
        self.x = 0
        self.slow = 0

    def number(self, lowest, highest):
        dice = self.dice
        return dice.choice(ODD_NUMBERS) if dice.randrange(12) == 0 else dice.randint(lowest, highest)

    def one_card(self):
        dice = self.dice
        return dice.choice(self.unseen) if self.unseen and dice.randrange(5) else self.number(0, 51)

    def made(self, kind):
        dice = self.dice
        if kind == 0:
            return self.new_view()
        return {
            1: lambda: give(self.one_card(), self.number(0, 1)),
            2: lambda: take(self.one_card()),
            3: lambda: hand(random_line_text(dice, self.cards)),
            4: lambda: rest(random_line_text(dice, self.cards)),
            5: lambda: COUNT,
            6: lambda: CHANCE,
            7: lambda: holds(self.one_card()),
            8: lambda: kth(self.number(0, 12)),
            9: lambda: place(self.some_hand()),
            10: lambda: shapes(self.number(1, 20)),
            11: lambda: POINTS,
            12: lambda: mean(self.number(0, 4)),
            13: lambda: met(self.number(0, 1), random_row(dice, DECK)),
            14: lambda: implies(random_line_text(dice, self.cards)),
            15: lambda: printed(self.number(0, 1)),
            16: lambda: TOLD,
        }[kind]()

    def new_view(self):
        call = random_view(self.dice)
        row = call[3:]
        unseen = [number for number in DECK if number not in row]
        if len(unseen) <= 12:
            self.unseen = unseen
            self.x = call[1]
            self.cards = self.dice.sample(unseen, min(2, len(unseen))) + [self.dice.randrange(52)]
        return call

    def some_hand(self):
        dice = self.dice
        if dice.randrange(3) and 0 <= self.x <= len(self.unseen):
            return dice.sample(self.unseen, self.x)
        return random_row(dice, self.unseen)

    def line(self, size):
        calls = [self.new_view()]
        while len(calls) < size:
            kind = self.dice.choice([0] + list(range(1, 17)) * 3)
            slow = kind in (8, 9, 14)
            if self.slow + slow <= 4:
                self.slow += slow
                calls.append(self.made(kind))
        return calls


class AgainstModel(unittest.TestCase):
    def check(self, calls):
        told = ask(*calls)
        expected = answers_of_model(calls)
        for at, call in enumerate(calls):
            self.assertEqual(told[at], expected[at], (calls[:at], call))
        return told

    def test_lines_of_a_hundred_calls(self):
        dice = random.Random(71)
        refusals = set()
        kinds = set()
        for _ in range(40):
            calls = Maker(dice).line(100)
            for call, answer in zip(calls, self.check(calls)):
                if answer[0] < 0:
                    refusals.add((call[0], max(answer[0], -1000)))
                else:
                    kinds.add(call[0])
        self.assertEqual(kinds, set(range(17)))
        self.assertLessEqual({(0, -1), (0, -2), (1, -1), (1, -3), (1, -4), (2, -3), (2, -4), (3, -1), (3, -1000),
                              (3, -9), (4, -1000), (4, -9), (7, -3), (7, -7), (10, -1), (12, -1), (12, -7), (13, -1),
                              (15, -1)}, refusals)

    def test_short_lines_with_the_slow_calls(self):
        dice = random.Random(72)
        refusals = set()
        for _ in range(400):
            maker = Maker(dice)
            calls = maker.line(1) + [maker.made(dice.choice([1, 1, 3, 4])) for _ in range(4)]
            calls += [maker.made(dice.choice([8, 9, 9, 14, 14])) for _ in range(4)]
            for call, answer in zip(calls, self.check(calls)):
                if answer[0] < 0:
                    refusals.add((call[0], max(answer[0], -1000)))
        self.assertLessEqual({(8, -1), (8, -7), (9, -1), (9, -7), (14, -1), (14, -9), (14, -1000)}, refusals)


def hundred_calls():
    """Every call, at the bounds: 39 unseen cards, x of 13, three named cards."""
    calls = [view(13, range(0, 52, 4))]
    texts = ["pts 12-14 & h >= 3", "bal", "SA | !HK", "c + d > h + s", "c >", "exact 4333"]
    for step in range(13):
        calls += [hand(texts[step % 6]), rest(texts[(step + 1) % 3]), COUNT, give(step * 2 + 1, step % 2),
                  holds(step * 2 + 1), shapes(step + 1)]
    calls += [POINTS, printed(0), printed(1), TOLD, kth(0), kth(10), take(1), CHANCE, met(0, range(1, 40, 3))]
    calls += [mean(what) for what in range(5)]
    return calls + [met(1, DECK), implies("pts > 12"), implies("!any"), hand("any"), rest("any"), TOLD, COUNT]


class Lines(unittest.TestCase):
    def test_a_hundred_calls(self):
        calls = hundred_calls()
        self.assertEqual(len(calls), 100)
        told = ask(*calls)
        self.assertEqual(len(told), 100)
        self.assertEqual(told[0], [0, 39])
        # Each call is answered as if the line had ended with it.
        for end in (17, 40, 61, 83, 97):
            self.assertEqual(ask(*calls[:end]), told[:end])

    def test_a_hundred_views(self):
        told = ask(*[view_of(step % 14, range(step % 27 + 13)) for step in range(100)])
        self.assertEqual(told, [[0, step % 27 + 13] for step in range(100)])

    def test_the_list_is_as_it_was(self):
        dice = random.Random(73)
        for calls in [hundred_calls()] + [Maker(dice).line(100) for _ in range(5)]:
            line = flat(*calls)
            kept = list(line)
            answers(line)
            self.assertEqual(line, kept)

    def test_the_list_is_not_changed_for_a_while(self):
        class Watched(list):
            def refused(self, *values, **others):
                raise AssertionError("the list is changed")

            append = extend = insert = pop = remove = clear = sort = reverse = refused
            __setitem__ = __delitem__ = __iadd__ = __imul__ = refused

        line = flat(*hundred_calls())
        self.assertEqual(answers(Watched(line)), answers(line))

    def test_the_same_list_twice(self):
        dice = random.Random(74)
        for calls in [hundred_calls()] + [Maker(dice).line(100) for _ in range(5)]:
            line = flat(*calls)
            self.assertEqual(answers(line), answers(line))

    def test_nothing_is_kept(self):
        asked = flat(COUNT, holds(3), TOLD, printed(0), printed(1), met(0, [1]), POINTS, shapes(3), place([]),
                     implies("c > 0"), hand("C2&D2&H2"), rest("C2"))
        before = answers(asked)
        answers(flat(view_of(3, range(9)), give(3, 1), hand("S2 & S3"), rest("S4"), COUNT, shapes(1), implies("S2")))
        self.assertEqual(answers(asked), before)

    def test_what_is_answered_may_be_changed(self):
        line = flat(*hundred_calls())
        told = answers(line)
        kept = list(told)
        told.clear()
        self.assertEqual(answers(line), kept)

    def test_lines_go_on_where_they_are_cut(self):
        dice = random.Random(8)
        for _ in range(20):
            calls = Maker(dice).line(40)
            told = ask(*calls)
            cut = dice.randrange(1, len(calls))
            self.assertEqual(last(*calls[:cut]), told[cut - 1])


if __name__ == "__main__":
    unittest.main()
