"""Promises 3 and 4: which texts are taken, and the place at which one is wrong."""

import random
import unittest

from plain import COUNT, RELATIONS, Unchanged, ask, give, hand, last, random_text, rest, view_of
from reading import place_by_machine

WORDS = ("any", "bal", "shape", "exact", "pts", "c", "d", "h", "s")


def place_told(text):
    """None for a taken text, else the place that the refusal tells."""
    told = last(hand(text))
    return None if told == [0] or told == [-9] else -1000 - told[0]


class RightTexts(unittest.TestCase):
    def test_every_form(self):
        for text in ("any", "bal", "shape 4333", "exact 0000", "shape 9999", "C2", "DT", "HJ", "SA",
                     "c < 3", "d <= 3", "h > 3", "s >= 3", "pts = 12", "c != 3", "c < d", "c + d >= h + s",
                     "pts 12 - 14", "c + d + h + s + pts 0 - 99", "!any", "!!any", "(any)", "!(any)",
                     "any & bal", "any | bal", "any & bal | C2 & !D2", "(any | bal) & any", "!c > 3",
                     "pts 5-5", "c 00 - 00", "c = 09", "c 7-07"):
            self.assertIsNone(place_told(text), text)

    def test_every_relation_with_number_and_sum(self):
        for relation in RELATIONS:
            self.assertIsNone(place_told("c" + relation + "3"))
            self.assertIsNone(place_told("c" + relation + "h+pts"))

    def test_every_card(self):
        for suit in "CDHS":
            for rank in "23456789TJQKA":
                self.assertIsNone(place_told(suit + rank))

    def test_blanks_may_be_left_out_or_be_many(self):
        for text in ("c<3", "c3-5", "shape4333", "exact4333", "pts12-14&s>=5|!C2", "SA&HK", "(any)&(bal)",
                     "   any   ", "  c  +  d  >=  3  ", "shape   4333", "c   3   -   5", "!  !  any", "( any )"):
            self.assertIsNone(place_told(text), text)

    def test_eight_terms_each(self):
        eight = "+".join(["c"] * 8)
        self.assertIsNone(place_told(eight + ">3"))
        self.assertIsNone(place_told(eight + ">" + eight))
        self.assertIsNone(place_told(eight + " 3-5"))

    def test_twenty_deep(self):
        self.assertIsNone(place_told("!" * 20 + "any"))
        self.assertIsNone(place_told("(" * 20 + "any" + ")" * 20))
        self.assertIsNone(place_told("!(" * 10 + "any" + ")" * 10))
        self.assertIsNone(place_told("!" * 20 + "any&" + "!" * 20 + "bal"))
        self.assertIsNone(place_told("(" * 19 + "!any & !bal" + ")" * 19))

    def test_four_hundred_bytes(self):
        self.assertIsNone(place_told("|".join(["any"] * 100) + " "))
        self.assertIsNone(place_told("any" + " " * 397))


class WrongTexts(unittest.TestCase):
    def assert_place(self, text, place):
        self.assertEqual(place_told(text), place, text)
        self.assertEqual(last(rest(text)), [-1000 - place], text)

    def test_empty_and_blank(self):
        self.assert_place("", 0)
        self.assert_place("   ", 3)

    def test_bad_tokens(self):
        for text, place in (("?", 0), ("any & ?", 6), ("any \t", 4), ("any\n", 3), ("C", 0), ("C1", 0),
                            ("C 2", 0), ("any | S", 6), ("S10", 0), ("sA", 1), ("AS", 0), ("c > 3 % 2", 6),
                            ("any.", 3), ("c * 2", 2), ("Any", 0), ("X2", 0), ("c > 3, d > 3", 5),
                            ("Ct", 0), ("any & CX", 6), ("c == 3", 3), ("c => 3", 3), ("c <> 3", 3)):
            self.assert_place(text, place)

    def test_every_strange_byte_is_bad(self):
        used = set(b"abcdefghijklmnopqrstuvwxyz0123456789CDHS <>=()&|!+-")
        for byte in range(256):
            if byte not in used:
                self.assert_place(list(b"any ") + [byte], 4)

    def test_only_byte_32_is_blank(self):
        for byte in (0, 9, 10, 11, 12, 13, 160):
            self.assert_place([byte] + list(b"any"), 0)

    def test_unknown_words(self):
        for text, place in (("foo", 0), ("anyx", 0), ("cd > 3", 0), ("any & balc", 6), ("c + x > 3", 4),
                            ("c > x", 4), ("any or bal", 4), ("pt > 3", 0), ("shapes 4333", 0)):
            self.assert_place(text, place)

    def test_end_of_text(self):
        for text in ("c", "c +", "c >", "c 3", "c 3 -", "shape", "exact", "!", "(", "(any", "any &", "any |",
                     "c + d", "c > d +", "!!", "((any)", "any &  ", "c >  "):
            self.assert_place(text, len(text))

    def test_ninth_plus(self):
        eight = "+".join(["c"] * 8)
        self.assert_place(eight + "+c>3", 15)
        self.assert_place("any & " + eight + " + c > 3", 22)
        self.assert_place("c>" + eight + "+c", 17)
        self.assert_place(eight + ">" + eight + "+?", 31)

    def test_twenty_one_deep(self):
        self.assert_place("!" * 21 + "any", 20)
        self.assert_place("(" * 21 + "any" + ")" * 21, 20)
        self.assert_place("!(" * 10 + "!any" + ")" * 10, 20)
        self.assert_place("(" * 20 + "!any" + ")" * 20, 20)
        self.assert_place("(" * 20 + "any & (any)" + ")" * 20, 26)
        self.assert_place("any & " + "!" * 25, 26)
        self.assert_place("(" * 21, 20)

    def test_digits_of_wrong_count(self):
        for text, place in (("shape 433", 6), ("shape 43333", 6), ("exact 1", 6), ("exact 12345", 6),
                            ("c > 100", 4), ("c > 003", 4), ("c 100 - 101", 2), ("c 3 - 100", 6),
                            ("c 000-5", 2), ("c > 12345678901234567890", 4), ("shape 43 33", 6)):
            self.assert_place(text, place)

    def test_second_number_below_first(self):
        for text, place in (("c 5 - 4", 6), ("c 5-4", 4), ("c 10 - 09", 7), ("pts 99-98", 7), ("c 05 - 4", 7)):
            self.assert_place(text, place)

    def test_tokens_where_they_cannot_stand(self):
        for text, place in (("any any", 4), ("any bal", 4), (")", 0), ("any)", 3), ("()", 1), ("(any))", 5),
                            ("& any", 0), ("any & & any", 6), ("any | & any", 6), ("c d > 3", 2), ("c ! 3", 2),
                            ("!=3", 0), ("c != = 3", 5), ("c > > 3", 4), ("3 > c", 0), ("c > -3", 4),
                            ("c > 3 - 5", 6), ("c 3 5", 4), ("c 3 + 5", 4), ("c - 5", 2), ("c + 3", 4),
                            ("c > d - h", 6), ("c > 3 + d", 6), ("c > d > h", 6), ("C2 > 3", 3), ("c > C2", 4),
                            ("C23", 2), ("C2D2", 2), ("any 4333", 4), ("bal 3", 4), ("shape c", 6),
                            ("shape (4333)", 6), ("(c) > 3", 2), ("c > (d)", 4), ("c > 3 4", 6), ("any !bal", 4),
                            ("any (bal)", 4), ("c & d", 2), ("c)", 1), ("4333", 0), ("c + + d", 4),
                            ("c > d 3-5", 6), ("c>3|", 4), ("any !", 4), ("! & any", 2), ("pts any", 4)):
            self.assert_place(text, place)

    def test_the_first_wrong_token_is_told(self):
        self.assert_place("any any ?", 4)
        self.assert_place("c > 100 ?", 4)
        self.assert_place("? any any", 0)
        self.assert_place("c 5 - 4 ?", 6)

    def test_longest_text(self):
        self.assert_place("any" + " " * 396 + "?", 399)
        self.assert_place("|".join(["any"] * 100) + "|", 400)
        self.assert_place("!" + " " * 399, 400)


class AgainstMachine(unittest.TestCase):
    def check(self, text):
        self.assertEqual(place_told(text), place_by_machine(text), text)

    def test_rows_of_random_tokens(self):
        dice = random.Random(1)
        tokens = list(WORDS) * 2 + ["4333", "3", "12", "05", "100", "C2", "SA", "S", "?"]
        tokens += RELATIONS + ["(", "(", ")", ")", "&", "|", "!", "!", "+", "+", "-"]
        for _ in range(4000):
            row = [dice.choice(tokens) for _ in range(dice.randint(0, 7))]
            self.check(dice.choice([" ", ""]).join(row))

    def test_right_texts_and_these_with_one_change(self):
        dice = random.Random(2)
        signs = "anybl shpec0123456789CDHSTJQKA<>=()&|!+-?"
        for _ in range(1500):
            text = random_text(dice, [0, 20, 51], dice.randint(1, 6))
            self.assertIsNone(place_told(text), text)
            self.check(text)
            at = dice.randrange(len(text))
            self.check(text[:at])
            self.check(text[:at] + text[at + 1:])
            self.check(text[:at] + dice.choice(signs) + text[at:])
            self.check(text[:at] + dice.choice(signs) + text[at + 1:])

    def test_deep_texts(self):
        dice = random.Random(3)
        for _ in range(500):
            opened = [dice.choice("!(") for _ in range(dice.randint(15, 23))]
            text = "".join(opened) + "any"
            for sign in reversed(opened):
                if sign == "(":
                    text += dice.choice(["", "&!any", "|(any)"]) + ")"
            self.check(text)


class Refusals(Unchanged):
    setup = [view_of(4, range(3, 14)), give(5, 1), give(6, 0), hand("pts >= 1 & C7"), rest("c > 2 | D2")]

    def test_wrong_text(self):
        self.assert_refused(self.setup, hand("c >"), -1003)
        self.assert_refused(self.setup, rest("c > 3 &"), -1007)
        self.assert_refused(self.setup, hand(""), -1000)

    def test_rows_that_are_no_texts(self):
        for wrong in ([32] * 401, [32] * 500, list(b"any") + [256], [-1] + list(b"any"), [10 ** 18], [-10 ** 18]):
            self.assert_refused(self.setup, hand(wrong), -1)
            self.assert_refused(self.setup, rest(wrong), -1)

    def test_ranges_go_before_the_place(self):
        self.assertEqual(last(hand("?" * 401)), [-1])
        self.assertEqual(last(hand(list(b"? any") + [300])), [-1])
        self.assertEqual(last(hand("?" * 400)), [-1000])

    def test_too_many_named(self):
        self.assert_refused(self.setup, hand("C7 & C8 & C9"), -9)
        self.assert_refused(self.setup, rest("C8 | !D2 | S2"), -9)
        self.assert_refused(self.setup, hand("C2 | D3 | H4 | S5"), -9)

    def test_place_goes_before_too_many_named(self):
        self.assert_refused(self.setup, hand("C2 | D3 | H4 | S5 |"), -1019)
        self.assert_refused(self.setup, rest("C2 | D3 | H4 | S5 )"), -1018)

    def test_three_unlike_cards_may_be_named(self):
        self.assertEqual(ask(hand("C2 & D2"), rest("S2"), rest("S2 | C2 & D2 | !S2"), hand("S2&C2&D2"),
                             rest("H2"), hand("any"), rest("H2"), hand("C2&D2&S2"), hand("H2&C2&D2&H2")),
                         [[0], [0], [0], [0], [-9], [0], [0], [-9], [0]])

    def test_cards_that_are_not_unseen_are_named_too(self):
        self.assertEqual(last(view_of(1, [0]), hand("C2 | D2 | H2 | S2")), [-9])

    def test_own_old_condition_does_not_count(self):
        self.assertEqual(ask(hand("C2&D2&H2"), hand("C3&D3&H3"), rest("C3"), rest("any")), [[0]] * 4)

    def test_a_new_condition_takes_the_place_of_the_old(self):
        self.assertEqual(ask(view_of(2, range(4)), hand("C2"), COUNT, hand("C3 & C4"), COUNT, rest("!C5"), COUNT),
                         [[0, 4], [0], [0, 3, 6], [0], [0, 1, 6], [0], [0, 0, 6]])


if __name__ == "__main__":
    unittest.main()
