"""Promise 14: implies, against a walk over all hands."""

import random
import unittest

from plain import (COUNT, HUGE, Unchanged, Walk, ask, give, hand, implies, kth, last, meets, printed, random_text,
                   random_walk, rest, telling_walk, tokens, view_of)


def implied(walk, text):
    for cards in walk.fitting:
        if not meets(text, cards):
            return [0, 0, *cards]
    return [0, 1]


def named(text):
    return {token for token in tokens(text) if token[0] in "CDHS"}


class AgainstWalk(unittest.TestCase):
    def test_random_texts(self):
        dice = random.Random(41)
        seen = {"true": 0, "first": 0, "later": 0}
        walks = [random_walk(dice) for _ in range(60)] + [telling_walk(dice) for _ in range(120)]
        for walk, unseen in walks:
            of_both = sorted(named(walk.hand_text) | named(walk.rest_text))
            cards = ["CDHS".index(one[0]) * 13 + "23456789TJQKA".index(one[1]) for one in of_both]
            texts = [random_text(dice, cards, dice.randint(1, 4)) for _ in range(2)]
            texts += [f"({walk.hand_text}) | {texts[0]}", f"!({walk.hand_text}) | {texts[1]}"]
            told = ask(*walk.setup, *[implies(text) for text in texts])[-4:]
            expected = [implied(walk, text) for text in texts]
            self.assertEqual(told, expected, (walk.hand_text, walk.rest_text, texts))
            for answer in expected:
                first = walk.fitting and answer[2:] == list(walk.fitting[0])
                seen["true" if answer == [0, 1] else "first" if first else "later"] += 1
        self.assertGreater(min(seen.values()), 40, seen)


class Implies(Unchanged):
    setup = [view_of(3, range(8)), give(0, 1), give(1, 0), hand("C4 | C5")]

    def test_true(self):
        for text in ("any", "C2", "!C3", "C4 | C5", "C5 | C4 & any", "c = 3", "pts = 0", "!(d > 0)"):
            self.assertEqual(last(*self.setup, implies(text)), [0, 1], text)

    def test_false_with_the_first_hand(self):
        for text, first in (("!any", [0, 2, 3]), ("C4", [0, 3, 4]), ("!C4", [0, 2, 3]), ("C5", [0, 2, 4]),
                            ("C4 & C5", [0, 2, 4]), ("c > 3", [0, 2, 3]), ("!(C5 & !C4)", [0, 3, 4])):
            self.assertEqual(last(*self.setup, implies(text)), [0, 0] + first, text)

    def test_the_rest_is_asked_too(self):
        self.assertEqual(last(*self.setup, rest("C4"), implies("C5")), [0, 1])
        self.assertEqual(last(*self.setup, rest("!C4"), implies("C5")), [0, 0, 0, 2, 4])

    def test_the_text_is_about_the_hand(self):
        setup = [view_of(2, [0, 1, 2, 13]), rest("c = 1")]
        self.assertEqual(last(*setup, implies("c = 2")), [0, 1])
        self.assertEqual(last(*setup, implies("c = 1")), [0, 0, 0, 1])

    def test_no_hand_fits(self):
        for text in ("any", "!any", "C4", "c > 9"):
            self.assertEqual(last(*self.setup, rest("!any"), implies(text)), [0, 1])

    def test_empty_hand(self):
        self.assertEqual(ask(implies("any"), implies("!any"), implies("c = 0"), implies("C2")),
                         [[0, 1], [0, 0], [0, 1], [0, 0]])

    def test_seen_and_known_cards_may_be_named(self):
        self.assertEqual(ask(*self.setup, implies("SA"), implies("!SA"), implies("C3"), implies("!C2"))[4:],
                         [[0, 0, 0, 2, 3], [0, 1], [0, 0, 0, 2, 3], [0, 0, 0, 2, 3]])

    def test_wrong_texts(self):
        for text, at in (("", 0), ("  ", 2), ("any any", 4), ("c >", 3), ("C4 & ?", 5), ("!" * 21 + "any", 20),
                         ("c 5-4", 4), ("shape 333", 6), ("c > 100", 4), ("(any", 4)):
            self.assert_refused(self.setup, implies(text), -1000 - at)

    def test_longest_texts(self):
        self.assertEqual(last(*self.setup, implies("any" + " " * 397)), [0, 1])
        self.assert_refused(self.setup, implies("any" + " " * 396 + "?"), -1399)
        self.assert_refused(self.setup, implies("|".join(["any"] * 100) + "|"), -1400)

    def test_rows_that_are_no_texts(self):
        for row in ([32] * 401, [63] * 500, list(b"any") + [256], [-1] + list(b"any"), [HUGE], [-HUGE],
                    list(b"? any") + [300]):
            self.assert_refused(self.setup, implies(row), -1)

    def test_too_many_named(self):
        # The condition on the hand names two.
        self.assertEqual(last(*self.setup, implies("C4 | C5 | SA")), [0, 1])
        self.assert_refused(self.setup, implies("HA | SA"), -9)
        self.assert_refused(self.setup, implies("C2 & C3 & C4"), -9)
        self.assert_refused(self.setup, implies("C2 | D2 | H2 | S2"), -9)
        full = self.setup + [rest("!D2")]
        self.assertEqual(last(*full, implies("D2 | C4 & !C5")), [0, 0, 0, 2, 3])
        self.assert_refused(full, implies("SA"), -9)
        self.assert_refused([rest("C2 & D2 & H2")], implies("S2"), -9)
        self.assert_refused([], implies("C2 | D2 | H2 | S2"), -9)
        self.assertEqual(last(implies("C2 | D2 | H2 | !C2 & !D2 & !H2")), [0, 1])

    def test_too_many_named_where_no_hand_fits(self):
        self.assert_refused(self.setup + [rest("!any")], implies("HA | SA"), -9)

    def test_place_goes_before_too_many_named(self):
        self.assert_refused(self.setup, implies("C2 | D3 | H4 | S5 |"), -1019)
        self.assert_refused(self.setup, implies("HA | SA )"), -1008)

    def test_nothing_is_changed(self):
        for text in ("any", "!any", "C4", "C5 | SA", "bal"):
            self.assert_unchanged(self.setup, [implies(text)])

    def test_both_conditions_are_as_they_were(self):
        setup = self.setup + [rest("!D2 | pts < 3")]
        for text in ("C5", "any", "C5 &", "SA & HA"):
            told = ask(*setup, COUNT, printed(0), printed(1), kth(1), implies(text), COUNT, printed(0), printed(1),
                       kth(1))[5:]
            self.assertEqual(told[:4], told[5:])


class AgainstCounts(unittest.TestCase):
    def test_first_of_those_that_deny(self):
        walk = Walk(4, [0, 9, 12, 13, 25, 24, 26, 40, 51, 50], [], [], "pts > 3", "c + d > h")
        for text in ("pts > 4", "s = 1", "SA | D2", "bal | c > 0", "pts < 15"):
            told = last(*walk.setup, implies(text))
            self.assertEqual(told, implied(walk, text))
            self.assertEqual(told[2:], last(*walk.setup, hand(f"pts > 3 & !({text})"), kth(0))[1:])


if __name__ == "__main__":
    unittest.main()
