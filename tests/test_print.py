"""Promise 15: print, the one text of each condition."""

import random
import unittest

from plain import (HUGE, RELATIONS, Unchanged, ask, bytes_answer, give, hand, last, printed, random_text, rest,
                   signs, view_of)
from reading import one_text


class OneText(unittest.TestCase):
    def check(self, text, expected):
        """Of both conditions; and read again and printed again it is the same."""
        told = ask(hand(text), rest(text), printed(0), printed(1))
        self.assertEqual(told[2:], [bytes_answer(expected)] * 2, text)
        self.assertEqual(one_text(text), expected)
        if len(expected) <= 400:
            self.assertEqual(ask(hand(expected), rest(expected), printed(0), printed(1)), told)

    def same(self, *texts):
        for text in texts:
            self.check(text, text)

    def test_words(self):
        self.same("any", "bal")
        self.check("  any ", "any")

    def test_shape_falls(self):
        self.check("shape 3345", "shape 5433")
        self.check("shape4333", "shape 4333")
        self.check("shape 0109", "shape 9100")
        self.check("shape 0000", "shape 0000")

    def test_exact_stays(self):
        self.check("exact 3345", "exact 3345")
        self.check("exact0090", "exact 0090")
        self.check("exact  0001", "exact 0001")

    def test_cards(self):
        for number in range(52):
            self.same(signs(number))

    def test_comparisons(self):
        for relation in RELATIONS:
            for term in ("pts", "c", "d", "h", "s"):
                self.check(f"{term}{relation}7", f"{term} {relation} 7")
                self.check(f"{term}  {relation}  {term}", f"{term} {relation} {term}")

    def test_sums_stay_in_their_order(self):
        self.check("s+c+pts+c>=12", "s + c + pts + c >= 12")
        self.check("d +c= h+ s +h", "d + c = h + s + h")
        eight = ["pts", "s", "c", "d", "d", "h", "c", "pts"]
        self.check("+".join(eight) + "!=" + "+".join(eight), " + ".join(eight) + " != " + " + ".join(eight))

    def test_ranges(self):
        self.check("pts 12 - 14", "pts 12-14")
        self.check("c+d3-5", "c + d 3-5")
        self.check("s 0-0", "s 0-0")
        self.check("s 0-99", "s 0-99")

    def test_numbers_without_needless_zeros(self):
        self.check("c > 09", "c > 9")
        self.check("c > 00", "c > 0")
        self.check("c > 0", "c > 0")
        self.check("c > 10", "c > 10")
        self.check("pts 05 - 09", "pts 5-9")
        self.check("pts 00-00", "pts 0-0")
        self.check("c = 90 & d 07-70", "c = 90 & d 7-70")

    def test_not(self):
        self.check("! any", "!any")
        self.check("! ! SA", "!!SA")
        self.check("! c > 3", "!c > 3")
        self.check("!(c > 3)", "!c > 3")
        self.check("!(!(bal))", "!!bal")
        self.check("! c 3 - 5", "!c 3-5")
        self.check("!(any & bal)", "!(any & bal)")
        self.check("! ( any|bal )", "!(any | bal)")
        self.check("!any & bal", "!any & bal")
        self.check("(!any) | bal", "!any | bal")
        self.check("!(!(any | bal) & SA)", "!(!(any | bal) & SA)")

    def test_needless_brackets_go(self):
        self.check("((any))", "any")
        self.check("(any) & (bal)", "any & bal")
        self.check("(any & bal) & SA", "any & bal & SA")
        self.check("(any | bal) | SA", "any | bal | SA")
        self.check("(any & bal) | SA", "any & bal | SA")
        self.check("SA | (any & bal)", "SA | any & bal")
        self.check("(!any)", "!any")
        self.check("SA & (!any)", "SA & !any")
        self.check("SA | (!any)", "SA | !any")
        self.check("(" * 20 + "any" + ")" * 20, "any")

    def test_an_or_in_an_and(self):
        self.same("(any | bal) & SA", "SA & (any | bal)", "(any | bal) & (SA | bal)", "SA & (any | bal) & bal")

    def test_an_and_on_the_right_of_and(self):
        self.same("any & (bal & SA)", "any & (bal & (SA & HK))", "any & (bal & SA) & HK", "any & bal & SA & HK")

    def test_an_or_on_the_right_of_or(self):
        self.same("any | (bal | SA)", "any | (bal | (SA | HK))", "any | (bal | SA) | HK", "any | bal | SA | HK")

    def test_mixed(self):
        self.same("any & bal | SA & HK", "any | bal & SA | HK", "any | (bal | SA & HK)", "any & (bal & (SA | HK))",
                  "!(any | bal) & !(SA & HK)", "any & !(bal & SA) | !(HK | !SA)")
        self.check("(any&(bal|SA))|(HK)", "any & (bal | SA) | HK")
        self.check("(any|bal)|((SA|HK))", "any | bal | (SA | HK)")
        self.check("pts12-14&s>=05|!(C2)", "pts 12-14 & s >= 5 | !C2")

    def test_deepest(self):
        self.check("!" * 20 + "any", "!" * 20 + "any")
        left = "(" * 20 + "any" + " | bal) & SA" * 20
        self.check(left, left)
        right = "any & (bal & (" * 10 + "SA | HK" + "))" * 10
        self.check(right, right)
        self.check("!(" * 10 + "any & bal" + ")" * 10, "!" * 10 + "(any & bal)")

    def test_random_texts(self):
        dice = random.Random(51)
        for _ in range(1500):
            text = random_text(dice, [0, 20, 51], dice.randint(1, 8))
            self.check(text, one_text(text))

    def test_longest(self):
        for part, joined in (("c<1", "&"), ("c<1", "|"), ("any", "&"), ("!SA", "|"), ("c+d+h>s+s", "&")):
            count = 401 // (len(part) + 1)
            text = joined.join([part] * count)
            self.assertLessEqual(len(text), 400)
            self.check(text, one_text(text))
        text = "&".join(["c<1"] * 100)
        self.assertEqual(last(hand(text), printed(0)), bytes_answer(" & ".join(["c < 1"] * 100)))


class Print(Unchanged):
    setup = [view_of(4, range(3, 14)), give(5, 1), give(6, 0), hand("pts>=1&C7"), rest("c > 02 | D2")]

    def test_each_condition(self):
        self.assertEqual(ask(*self.setup, printed(0), printed(1))[5:],
                         [bytes_answer("pts >= 1 & C7"), bytes_answer("c > 2 | D2")])

    def test_the_bytes_are_counted(self):
        self.assertEqual(last(hand("c>3"), printed(0)), [0, 5, 99, 32, 62, 32, 51])

    def test_before_the_first_call(self):
        self.assertEqual(ask(printed(0), printed(1)), [[0, 3, 97, 110, 121]] * 2)

    def test_after_a_view(self):
        self.assertEqual(ask(*self.setup, view_of(1, [2]), printed(0), printed(1))[-2:], [bytes_answer("any")] * 2)

    def test_after_refusals(self):
        for call in (hand("c >"), rest("c >"), hand("C2 & C3 & C4"), rest("S2 & SA & HA"), view_of(5, [1]),
                     hand([32] * 401)):
            told = ask(*self.setup, call, printed(0), printed(1))
            self.assertLess(told[5][0], 0)
            self.assertEqual(told[6:], [bytes_answer("pts >= 1 & C7"), bytes_answer("c > 2 | D2")])

    def test_ranges(self):
        for which in (-1, 2, HUGE, -HUGE):
            self.assert_refused(self.setup, printed(which), -1)

    def test_nothing_is_changed(self):
        self.assert_unchanged(self.setup, [printed(0), printed(1)])


if __name__ == "__main__":
    unittest.main()
