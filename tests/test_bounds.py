"""The bounds that the document tells, where hands are too many to be walked."""

import random
import unittest
from fractions import Fraction
from math import comb, gcd

from plain import (CHANCE, COUNT, DECK, ask, card, count_by_states, give, hand, holds, kth, last, random_text, rest,
                   signs, view_of)

WITHOUT_LOW = tuple(number for number in DECK if number % 13 > 3 or number in (0, 14, 28))
SPREAD = tuple(number for number in DECK if number % 4 != 0)
NO_SPADES = tuple(range(39))
NO_CLUBS = tuple(range(13, 52))


def long_text(parts, joined):
    """As many of these parts, over and over, as 400 bytes hold, and blanks up to them."""
    text = parts[0]
    at = 1
    while len(text) + len(joined) + len(parts[at % len(parts)]) <= 400:
        text += joined + parts[at % len(parts)]
        at += 1
    return text.ljust(400)


class ThirtyNineCards(unittest.TestCase):
    def check(self, unseen, hand_text, rest_text, x=13):
        fitting = count_by_states(x, unseen, hand_text, rest_text)
        every = comb(len(unseen), x)
        divisor = gcd(fitting, every)
        self.assertEqual(ask(view_of(x, unseen), hand(hand_text), rest(rest_text), COUNT, CHANCE)[1:],
                         [[0], [0], [0, fitting, every], [0, fitting // divisor, every // divisor]],
                         (hand_text, rest_text))
        return fitting

    def test_the_views_have_39_cards(self):
        for unseen in (WITHOUT_LOW, SPREAD, NO_SPADES, NO_CLUBS):
            self.assertEqual(len(unseen), 39)

    def test_all_hands(self):
        for unseen in (WITHOUT_LOW, SPREAD, NO_SPADES, NO_CLUBS):
            for x in range(14):
                self.assertEqual(last(view_of(x, unseen), COUNT), [0, comb(39, x), comb(39, x)])

    def test_plain_conditions(self):
        for unseen in (WITHOUT_LOW, SPREAD, NO_CLUBS):
            for text in ("pts 12-14 & h >= 5", "bal & pts 15-17", "shape 5431", "exact 5332", "pts + h >= 20"):
                self.check(unseen, text, "any")
            self.check(unseen, "pts <= 9", "pts 20-30 & h + d > c + c")

    def test_closed_forms(self):
        self.assertEqual(self.check(NO_SPADES, "exact 0553", "any"), comb(13, 5) ** 2 * comb(13, 3))
        self.assertEqual(self.check(NO_SPADES, "c = 13", "any"), 1)
        self.assertEqual(self.check(NO_SPADES, "any", "c = 0 & d = 13 & h = 13"), 1)
        self.assertEqual(self.check(NO_SPADES, "pts = 0", "pts = 30"), comb(27, 13))
        self.assertEqual(self.check(NO_SPADES, "CA & DA & !HA", "any"), comb(36, 11))

    def test_most_hands_of_like_points(self):
        poor = tuple(sorted([number for number in DECK if number % 13 < 9] + [9, 22, 35]))
        self.assertEqual(len(poor), 39)
        self.assertEqual(self.check(poor, "pts = 1", "any"), 3 * comb(36, 12))
        self.assertEqual(self.check(poor, "pts 0-2", "pts 1-3"), comb(39, 13) - comb(36, 10))

    def test_most_points(self):
        rich = tuple(sorted([number for number in DECK if number % 13 > 8] + list(range(9)) + list(range(13, 22))
                            + list(range(26, 31))))
        self.assertEqual(len(rich), 39)
        self.assertEqual(self.check(rich, "pts = 37", "any"), 4)
        self.assertEqual(self.check(rich, "pts > 37", "any"), 0)
        self.assertEqual(self.check(rich, "pts = 0", "pts = 40"), comb(23, 13))
        self.assertEqual(self.check(rich, "any", "pts = 40", 0), 1)
        self.assertEqual(self.check(rich, "pts+pts+pts+pts+pts+pts+pts+pts > 99", "pts + pts >= 40"),
                         self.check(rich, "pts > 12", "pts >= 20"))

    def test_three_named_cards(self):
        named = "SA & !(HK & pts > 12) | DT & c > 3"
        for unseen in (WITHOUT_LOW, SPREAD, NO_CLUBS):
            self.check(unseen, named, "HK | !DT & s < 5")
            self.check(unseen, "!SA & HK", "SA & DT | pts >= 20")

    def test_texts_of_400_bytes(self):
        hands = long_text(["pts + c > h + s", "SA & HK", "d 3-5 & !bal", "pts 10-12", "shape 5332", "!DT"], " & !")
        rests = long_text(["pts + pts < 19", "c + d >= s + h + h", "!HK", "pts+s+s = 33", "exact 6767"], "|")
        self.assertEqual(len(hands), 400)
        self.assertEqual(len(rests), 400)
        for unseen in (WITHOUT_LOW, SPREAD, NO_CLUBS):
            self.check(unseen, hands, rests)
            self.check(unseen, rests, hands)

    def test_many_short_atoms(self):
        text = long_text([f"{term}={number}" for number in (5, 0, 1) for term in "cdhs"], "|")
        self.check(SPREAD, text, "any")
        self.check(SPREAD, long_text(["c<6", "d<6", "h<6", "s<6"], "&"), text)

    def test_random_texts(self):
        dice = random.Random(7)
        named = [card("SA"), card("HK"), card("DT")]
        for _ in range(12):
            texts = [random_text(dice, named, 8) for _ in range(2)]
            self.check(SPREAD, *texts)


class KthOfMany(unittest.TestCase):
    def before(self, unseen, cards):
        """How many hands of the unseen cards come before this one."""
        count = 0
        left = len(cards)
        for place, number in enumerate(unseen):
            rest_size = len(unseen) - place - 1
            if number in cards:
                left -= 1
            elif left > 0:
                count += comb(rest_size, left - 1)
        return count

    def test_no_condition(self):
        for k in (0, 1, 1234567890, comb(39, 13) - 2, comb(39, 13) - 1):
            told = last(view_of(13, SPREAD), kth(k))
            self.assertEqual(told[1:], sorted(set(told[1:])))
            self.assertEqual(len(told), 14)
            self.assertTrue(set(told[1:]) <= set(SPREAD))
            self.assertEqual(self.before(SPREAD, told[1:]), k)
        self.assertEqual(last(view_of(13, SPREAD), kth(comb(39, 13))), [-7])

    def place_by_states(self, unseen, cards, hand_text, rest_text):
        """How many hands that fit come before this one: by the first card that differs."""
        count = 0
        for place, number in enumerate(unseen):
            if number not in cards and sum(one > number for one in cards):
                kept = [one for one in cards if one < number] + [number]
                shut = [one for one in unseen[:place] if one not in cards]
                setup = [view_of(13, unseen)] + [give(one, 1) for one in kept]
                setup += [give(one, 0) for one in shut] + [hand(hand_text), rest(rest_text)]
                count += last(*setup, COUNT)[1]
        return count

    def test_with_conditions(self):
        texts = ("SA & !(HK & pts > 12) | DT & c > 3", "pts > 15 | !DT & s < 5")
        setup = [view_of(13, SPREAD), hand(texts[0]), rest(texts[1])]
        fitting = count_by_states(13, SPREAD, *texts)
        numbers = [0, fitting // 3, fitting - 1]
        told = ask(*setup, *[kth(k) for k in numbers], kth(fitting))[3:]
        self.assertEqual(told[3], [-7])
        for k, answer in zip(numbers, told):
            self.assertEqual(len(answer), 14)
            self.assertEqual(self.place_by_states(SPREAD, answer[1:], *texts), k)


class HoldsOfMany(unittest.TestCase):
    def test_each_card(self):
        texts = ("pts 11-15 & !bal", "SA | HK")
        fitting = count_by_states(13, SPREAD, *texts)
        told = ask(view_of(13, SPREAD), hand(texts[0]), rest(texts[1]), *[holds(number) for number in SPREAD])[3:]
        for number in (SPREAD[0], card("HJ"), card("SA"), card("D2"), SPREAD[-1]):
            having = count_by_states(13, SPREAD, f"({texts[0]}) & {signs(number)}", texts[1])
            divisor = gcd(having, fitting)
            self.assertEqual(told[SPREAD.index(number)], [0, having // divisor, fitting // divisor])

    def test_the_parts_make_thirteen(self):
        told = ask(view_of(13, SPREAD), hand("pts 11-15 & !bal"), *[holds(number) for number in SPREAD])[2:]
        self.assertEqual(sum(Fraction(upper, lower) for zero, upper, lower in told), 13)


if __name__ == "__main__":
    unittest.main()
