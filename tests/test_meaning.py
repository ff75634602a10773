"""What conditions mean, of the hand and of the rest, against a plain count."""

import random
import unittest

from plain import COUNT, Walk, card, hand, last, random_text, rest, view_of

# Every suit, all honours of two, and few enough hands to be walked.
MIXED = [card(signs) for signs in ("C2", "C9", "CK", "D3", "DA", "DJ", "H4", "HQ", "S5", "SA", "SK", "SQ")]

# Enough of each suit that bal and long shapes come about.
EVEN = [card(signs) for signs in ("C2", "C3", "C4", "C5", "D2", "D3", "D4", "D5", "H2", "H3", "H4", "HA", "S2",
                                  "S3", "SK")]


class Meaning(unittest.TestCase):
    def check(self, x, unseen, hand_text, rest_text):
        walk = Walk(x, unseen, hand_text=hand_text, rest_text=rest_text)
        self.assertEqual(last(*walk.setup, COUNT), [0, len(walk.fitting), len(walk.hands)],
                         (hand_text, rest_text))
        return len(walk.fitting)

    def check_both(self, x, unseen, text):
        """Asks of the hand and of the rest; the text must tell some hands from others."""
        self.assertGreater(self.check(x, unseen, text, "any"), 0, text)
        self.assertGreater(self.check(x, unseen, "!(" + text + ")", "any"), 0, text)
        self.check(x, unseen, "any", text)

    def test_any(self):
        self.assertEqual(self.check(5, MIXED, "any", "any"), 792)
        self.assertEqual(self.check(5, MIXED, "!any", "any"), 0)
        self.assertEqual(self.check(5, MIXED, "any", "!any"), 0)

    def test_bal(self):
        self.check_both(13, EVEN, "bal")
        self.check_both(13, EVEN, "bal & s = 2")
        self.assertEqual(last(view_of(13, range(13)), hand("bal"), COUNT), [0, 0, 1])

    def test_bal_shapes_one_by_one(self):
        def unseen(spades, hearts, diamonds, clubs):
            numbers = []
            for suit, length in enumerate((clubs, diamonds, hearts, spades)):
                numbers += [suit * 13 + rank for rank in range(length)]
            return numbers
        for lengths, fits in (((4, 3, 3, 3), 1), ((3, 3, 4, 3), 1), ((2, 4, 3, 4), 1), ((4, 4, 3, 2), 1),
                              ((5, 3, 3, 2), 1), ((2, 3, 3, 5), 1), ((5, 4, 2, 2), 0), ((4, 4, 4, 1), 0),
                              ((6, 3, 2, 2), 0), ((13, 0, 0, 0), 0)):
            self.assertEqual(last(view_of(13, unseen(*lengths)), hand("bal"), COUNT), [0, fits, 1], lengths)
            self.assertEqual(last(view_of(0, unseen(*lengths)), rest("bal"), COUNT), [0, fits, 1], lengths)

    def test_shape(self):
        for text in ("shape 2111", "shape 1112", "shape 0221", "shape 3200", "shape 0203"):
            self.check_both(5, MIXED, text)
        self.assertEqual(self.check(5, MIXED, "shape 9999", "any"), 0)
        self.assertGreater(self.check(5, MIXED, "any", "shape 2221"), 0)

    def test_exact_is_spades_hearts_diamonds_clubs(self):
        for text in ("exact 4100", "exact 2111", "exact 0023", "exact 1022"):
            self.check_both(5, MIXED, text)
        self.assertEqual(self.check(4, MIXED, "exact 4000", "any"), 1)
        self.assertEqual(self.check(4, MIXED, "exact 0004", "any"), 0)
        self.assertGreater(self.check(5, MIXED, "any", "exact 3112"), 0)

    def test_card(self):
        for text in ("CK", "C2 | SA", "DA & !S5", "SQ & SK | HQ"):
            self.check_both(5, MIXED, text)

    def test_a_card_that_is_not_unseen_is_in_neither(self):
        self.assertEqual(self.check(5, MIXED, "CA", "any"), 0)
        self.assertEqual(self.check(5, MIXED, "any", "CA"), 0)
        self.assertEqual(self.check(5, MIXED, "!CA", "!CA & !D2"), 792)

    def test_a_card_in_the_hand_is_not_in_the_rest(self):
        self.assertEqual(self.check(5, MIXED, "CK", "CK"), 0)
        self.assertEqual(self.check(5, MIXED, "CK", "!CK"), 330)
        self.assertEqual(self.check(5, MIXED, "!CK", "CK"), 462)

    def test_lengths_and_points(self):
        for term in ("c", "d", "h", "s", "pts"):
            for relation in ("<", "<=", ">", ">=", "=", "!="):
                self.check_both(5, MIXED, f"{term} {relation} 1")
        self.check_both(5, MIXED, "pts 6-8")
        self.check_both(5, MIXED, "s 2-3")

    def test_edges_of_relations(self):
        for number in range(22):
            for relation in ("<", "<=", ">", ">=", "=", "!="):
                self.check(4, MIXED, f"pts {relation} {number}", "any")
                self.check(4, MIXED, "any", f"pts {relation} {number}")
            self.check(4, MIXED, f"pts {number}-{number}", f"pts {max(0, 14 - number)}-{16}")

    def test_sums(self):
        for text in ("c + d > 2", "pts + s + s >= 9", "c + c = 4", "pts + pts + pts 20-25", "pts != s",
                     "pts + c < h + s + s", "s > pts", "c + d = h + s + pts", "pts + c > pts + d",
                     "s+s+s+s+s+s+s+s > pts", "pts+pts+pts+pts+pts+pts+pts+pts > 50",
                     "c+d+h+s = 5 & pts > 3"):
            self.check_both(5, MIXED, text)
        self.assertEqual(self.check(5, MIXED, "pts > pts + pts + c", "any"), 0)
        self.assertEqual(self.check(5, MIXED, "c + d + h + s = 5", "c + d + h + s = 7"), 792)

    def test_and_binds_more_than_or(self):
        for text in ("c > 1 | d > 1 & s > 1", "d > 1 & s > 1 | c > 1", "(c > 1 | d > 1) & s > 1",
                     "c > 1 & (d > 1 | s > 1)", "c = 1 & d = 1 | s = 2 & h = 1 | SA & !SK"):
            self.check_both(5, MIXED, text)
        both = self.check(5, MIXED, "c > 1 | d > 1 & s > 1", "any")
        self.assertNotEqual(both, self.check(5, MIXED, "(c > 1 | d > 1) & s > 1", "any"))

    def test_not(self):
        for text in ("!c > 1", "!c > 1 & s > 1", "!(c > 1 & s > 1)", "!!c > 1", "!SA | !SK", "!bal & pts > 9",
                     "!s 1-2"):
            self.check_both(5, MIXED, text)
        self.assertEqual(self.check(5, MIXED, "!c > 1", "any"), self.check(5, MIXED, "c <= 1", "any"))

    def test_leading_zeros_and_blanks(self):
        self.assertEqual(self.check(5, MIXED, "  pts>=09  &s<02", "any"),
                         self.check(5, MIXED, "pts >= 9 & s < 2", "any"))

    def test_random_texts(self):
        dice = random.Random(4)
        for _ in range(250):
            unseen = dice.sample(range(52), dice.randint(0, 10))
            x = dice.randint(0, len(unseen))
            named = dice.sample(unseen, min(2, len(unseen))) + [dice.randrange(52)]
            self.check(x, unseen, random_text(dice, named, dice.randint(1, 7)),
                       random_text(dice, named, dice.randint(1, 7)))


if __name__ == "__main__":
    unittest.main()
