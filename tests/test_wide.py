"""Promises 9 to 15 at the bounds: 39 unseen cards, x of 13, three named cards, texts of 400 bytes."""

import random
import unittest
from math import comb

from plain import (CHANCE, COUNT, DECK, POINTS, TOLD, ask, bytes_answer, card, count_by_states, give, hand, holds,
                   implies, kth, last, mean, mean_answer, meets, met, place, points_answer, printed, random_text, rest,
                   shapes, shapes_answer, spread_by_states, take, view_of)
from reading import one_text
from test_bounds import NO_CLUBS, NO_SPADES, SPREAD, WITHOUT_LOW, long_text

NAMED = ("SA & !(HK & pts > 12) | DT & c > 3", "pts > 15 | !DT & s < 5")
LONG_HAND = long_text(["pts + c > h + s", "SA & HK", "d 3-5 & !bal", "pts 10-12", "shape 5332", "!DT"], " & !")
LONG_REST = long_text(["pts + pts < 19", "c + d >= s + h + h", "!HK", "pts+s+s = 33", "exact 6767"], "|")


class Spread(unittest.TestCase):
    def check(self, unseen, hand_text, rest_text, x=13):
        spread = spread_by_states(x, unseen, hand_text, rest_text)
        asked = [shapes(limit) for limit in (1, 7, 20)] + [POINTS] + [mean(what) for what in range(5)]
        told = ask(view_of(x, unseen), hand(hand_text), rest(rest_text), *asked)[3:]
        self.assertEqual(told[:3], [shapes_answer(spread, limit) for limit in (1, 7, 20)])
        self.assertEqual(told[3], points_answer(spread))
        self.assertEqual(told[4:], [mean_answer(spread, what) for what in range(5)])
        return spread

    def test_no_condition(self):
        for unseen in (WITHOUT_LOW, SPREAD, NO_SPADES, NO_CLUBS):
            for x in (0, 1, 7, 13):
                self.assertEqual(sum(self.check(unseen, "any", "any", x).values()), comb(39, x))

    def test_conditions(self):
        for unseen in (WITHOUT_LOW, SPREAD, NO_CLUBS):
            for texts in (NAMED, ("pts 12-14 & h >= 5", "bal | !SA"), ("bal & pts 15-17", "any"),
                          ("any", "pts = 20 & s > 6"), ("pts > 37", "any")):
                self.check(unseen, *texts)

    def test_long_texts(self):
        for unseen in (WITHOUT_LOW, SPREAD):
            self.check(unseen, LONG_HAND, LONG_REST)
            self.check(unseen, LONG_REST, LONG_HAND)

    def test_random_texts(self):
        dice = random.Random(81)
        named = [card("SA"), card("HK"), card("DT")]
        for _ in range(12):
            self.check(SPREAD, *[random_text(dice, named, 6) for _ in range(2)])

    def test_most_points(self):
        rich = tuple(sorted([number for number in DECK if number % 13 > 8] + list(range(9)) + list(range(13, 22))
                            + list(range(26, 31))))
        spread = self.check(rich, "any", "any")
        self.assertEqual(max(together for lengths, together in spread), 37)
        self.assertEqual(last(view_of(13, rich), hand("pts > 36"), POINTS), [0, 1, 37, 4])


class PlaceAndKth(unittest.TestCase):
    def check(self, setup, numbers):
        hands = ask(*setup, *[kth(k) for k in numbers])[len(setup):]
        told = ask(*setup, *[place(answer[:0:-1]) for answer in hands])[len(setup):]
        self.assertEqual(told, [[0, k] for k in numbers])
        return [answer[1:] for answer in hands]

    def test_no_condition(self):
        every = comb(39, 13)
        hands = self.check([view_of(13, SPREAD)], [0, 4321, every // 2, every - 1])
        self.assertEqual(hands[0], list(SPREAD[:13]))
        self.assertEqual(hands[3], list(SPREAD[26:]))

    def test_conditions(self):
        for unseen in (WITHOUT_LOW, SPREAD):
            for texts in (NAMED, ("pts 12-14 & h >= 3", "SA | HK"), (LONG_REST, "any")):
                count = count_by_states(13, unseen, *texts)
                self.assertGreater(count, 3)
                setup = [view_of(13, unseen), hand(texts[0]), rest(texts[1])]
                self.check(setup, [0, 1, count // 2, count - 1])

    def test_known_cards(self):
        setup = [view_of(13, SPREAD), give(SPREAD[3], 1), give(SPREAD[30], 1), give(SPREAD[0], 0), give(SPREAD[38], 0),
                 hand(NAMED[0]), rest(NAMED[1])]
        count = last(*setup, COUNT)[1]
        for cards in self.check(setup, [0, 99, count // 3, count - 1]):
            self.assertTrue(SPREAD[3] in cards and SPREAD[30] in cards)
            self.assertFalse(SPREAD[0] in cards or SPREAD[38] in cards)

    def test_no_hand_and_unfitting_hands(self):
        setup = [view_of(13, SPREAD), hand("pts <= 10")]
        self.assertEqual(ask(*setup, place(SPREAD[:12]), place(SPREAD[:14]), place(list(SPREAD[:12]) + [0]),
                             place([number for number in SPREAD if number % 13 > 8]))[2:], [[-7]] * 4)


class Implies(unittest.TestCase):
    def check(self, unseen, hand_text, rest_text, text):
        """By the count of those that deny it, and by the first of them."""
        denied = f"({hand_text}) & !({text})"
        setup = [view_of(13, unseen), hand(hand_text), rest(rest_text)]
        told = last(*setup, implies(text))
        if count_by_states(13, unseen, denied, rest_text) == 0:
            self.assertEqual(told, [0, 1])
        else:
            cards = told[2:]
            left = [number for number in unseen if number not in cards]
            self.assertEqual(told, [0, 0] + sorted(cards))
            self.assertEqual(len(cards), 13)
            self.assertTrue(meets(hand_text, cards) and meets(rest_text, left) and not meets(text, cards))
            self.assertEqual(last(view_of(13, unseen), hand(denied), rest(rest_text), place(cards)), [0, 0])
        return told[1]

    def test_true_and_false(self):
        for unseen in (WITHOUT_LOW, SPREAD):
            self.assertEqual(self.check(unseen, "bal", "any", "c < 6 & d < 6 & h < 6 & s < 6"), 1)
            self.assertEqual(self.check(unseen, "bal", "any", "c < 5 | pts > 0"), 0)
            self.assertEqual(self.check(unseen, *NAMED, "SA | DT"), 1)
            self.assertEqual(self.check(unseen, *NAMED, "SA & !DT | c > 5"), 0)
            self.assertEqual(self.check(unseen, "pts > 37", "any", "!any"), 1)
            self.assertEqual(self.check(unseen, "any", "!SA", "SA"), 1 if 51 in unseen else 0)

    def test_one_hand_alone_denies(self):
        self.assertEqual(last(view_of(13, NO_SPADES), implies("c < 13 | pts > 99")), [0, 0, *range(13)])
        self.assertEqual(last(view_of(13, NO_SPADES), implies("h < 13")), [0, 0, *range(26, 39)])
        self.assertEqual(last(view_of(13, NO_SPADES), implies("s = 0")), [0, 1])

    def test_long_texts(self):
        setup = [view_of(13, SPREAD), hand(LONG_REST), rest(LONG_REST)]
        self.assertEqual(last(*setup, implies(LONG_REST)), [0, 1])
        first = last(*setup, implies(LONG_HAND))
        cards = first[2:]
        self.assertTrue(first[1] == 0 and meets(LONG_REST, cards) and not meets(LONG_HAND, cards))


class Texts(unittest.TestCase):
    def test_printed_and_met(self):
        for text in (LONG_HAND, LONG_REST):
            self.assertEqual(ask(hand(text), printed(0), rest(text), printed(1))[1::2],
                             [bytes_answer(one_text(text))] * 2)
            dice = random.Random(82)
            rows = [dice.sample(DECK, dice.randint(0, 52)) for _ in range(90)]
            self.assertEqual(ask(hand(text), *[met(0, row) for row in rows])[1:],
                             [[0, int(meets(text, row))] for row in rows])


class LineAtTheBounds(unittest.TestCase):
    def test_a_hundred_calls_with_long_texts(self):
        calls = [view_of(13, SPREAD), kth(10 ** 9), place(SPREAD[::3]), implies(LONG_REST), implies("!SA | HK")]
        known = 0
        while len(calls) < 83:
            calls += [hand(LONG_REST), rest(NAMED[1]), COUNT, shapes(20), POINTS, mean(4), give(SPREAD[known], known % 2),
                      CHANCE, holds(SPREAD[known]), rest(LONG_HAND), hand(NAMED[0]), printed(1), met(1, DECK)]
            known += 1
        calls += [hand("any"), rest("any"), TOLD, COUNT, take(SPREAD[0]), TOLD, COUNT]
        calls += [mean(what) for what in range(100 - len(calls))]
        self.assertLessEqual(len(calls), 100)
        self.assertLessEqual(sum(len(call) for call in calls), 16000)
        told = ask(*calls)
        self.assertEqual(len(told), len(calls))
        self.assertTrue(all(answer[0] == 0 or call[0] in (12, 7) for call, answer in zip(calls, told)), told)
        at = calls.index(TOLD)
        inside = [SPREAD[number] for number in range(known) if number % 2]
        outside = [SPREAD[number] for number in range(known) if not number % 2]
        self.assertEqual(told[at], [0, 13, 39, len(inside), *inside, len(outside), *outside])
        self.assertEqual(told[at + 1], [0] + [comb(39 - known, 13 - len(inside))] * 2)
        # The first answers after a text are those of a line that asks nothing before.
        setup = [view_of(13, SPREAD), hand(LONG_REST), rest(NAMED[1])]
        self.assertEqual(told[7:11], ask(*setup, COUNT, shapes(20), POINTS, mean(4))[3:])


if __name__ == "__main__":
    unittest.main()
