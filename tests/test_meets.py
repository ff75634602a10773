"""Promise 13: meets, of sets of 0 to 52 cards, whatever is unseen or known."""

import random
import unittest

from plain import (DECK, HUGE, Unchanged, ask, card, give, hand, last, meets, met, random_text, rest, signs,
                   view_of)


def cards_of(row):
    return [card(one) for one in row.split()]


def set_of_lengths(spades, hearts, diamonds, clubs):
    numbers = []
    for suit, length in enumerate((clubs, diamonds, hearts, spades)):
        numbers += [suit * 13 + rank for rank in range(length)]
    return numbers


class Meanings(unittest.TestCase):
    def check(self, text, row, expected):
        """The same of both conditions, each asked while the other says otherwise."""
        other = "!any" if expected else "any"
        self.assertEqual(ask(hand(text), rest(other), met(0, row), rest(text), hand(other), met(1, row))[2::3],
                         [[0, expected]] * 2, (text, row))

    def test_any(self):
        for size in range(53):
            self.check("any", list(DECK)[:size], 1)
            self.check("!any", list(DECK)[52 - size:], 0)

    def test_bal(self):
        for lengths, expected in (((4, 3, 3, 3), 1), ((3, 3, 3, 4), 1), ((2, 4, 3, 4), 1), ((3, 5, 2, 3), 1),
                                  ((5, 4, 2, 2), 0), ((4, 4, 4, 1), 0), ((3, 3, 3, 3), 0), ((0, 0, 0, 0), 0),
                                  ((5, 3, 3, 3), 0), ((13, 13, 13, 13), 0)):
            self.check("bal", set_of_lengths(*lengths), expected)

    def test_shape(self):
        for lengths in ((5, 4, 3, 1), (1, 3, 4, 5), (3, 5, 1, 4)):
            self.check("shape 1345", set_of_lengths(*lengths), 1)
            self.check("shape 5431", set_of_lengths(*lengths), 1)
            self.check("shape 5432", set_of_lengths(*lengths), 0)
        self.check("shape 0000", [], 1)
        self.check("shape 9999", set_of_lengths(9, 9, 9, 9), 1)
        self.check("shape 1333", set_of_lengths(13, 3, 3, 3), 0)

    def test_exact(self):
        self.check("exact 5431", set_of_lengths(5, 4, 3, 1), 1)
        self.check("exact 5431", set_of_lengths(1, 3, 4, 5), 0)
        self.check("exact 0000", [], 1)
        self.check("exact 0009", set_of_lengths(0, 0, 0, 9), 1)

    def test_cards(self):
        for number in DECK:
            others = [one for one in DECK if one != number]
            self.check(signs(number), [number], 1)
            self.check(signs(number), others, 0)
            self.check("!" + signs(number), others, 1)
            self.check(signs(number), list(DECK), 1)

    def test_points_and_lengths(self):
        self.check("pts = 40 & c = 13 & d = 13 & h = 13 & s = 13", list(DECK), 1)
        self.check("pts = 0 & c + d + h + s = 0", [], 1)
        for rank, worth in (("A", 4), ("K", 3), ("Q", 2), ("J", 1), ("T", 0), ("2", 0)):
            for suit in "CDHS":
                self.check(f"pts = {worth} & {suit.lower()} = 1", [card(suit + rank)], 1)
        self.check("pts 39-40", [number for number in DECK if number != card("SJ")], 1)
        self.check("pts < 40", list(DECK), 0)

    def test_sums(self):
        row = cards_of("C2 CA DK HQ HJ S5 S6 S7")
        self.check("c + d = s", row, 1)
        self.check("h + s > pts", row, 0)
        self.check("pts + c 11-12", row, 1)
        self.check("pts + c 13-99", row, 0)
        self.check("pts+pts+pts+pts+pts+pts+pts+pts = 80", row, 1)
        self.check("pts+pts+pts+pts+pts+pts+pts+pts > 99", list(DECK), 1)
        self.check("pts+pts+pts+pts+pts+pts+pts+pts > c+c+c+c+c+c+c+c", list(DECK), 1)

    def test_joined(self):
        row = cards_of("C2 CA DK")
        self.check("CA & DK | SA", row, 1)
        self.check("SA | DK & HA", row, 0)
        self.check("!(CA & SA) & !HA", row, 1)
        self.check("!c > 2", row, 1)
        self.check("!c > 1", row, 0)

    def test_order_of_the_row_does_not_matter(self):
        row = cards_of("SA C2 HK D9")
        self.check("HK & pts = 7 & shape 1111", row, 1)
        self.check("HK & pts = 7 & shape 1111", row[::-1], 1)

    def test_random_texts_and_sets(self):
        dice = random.Random(31)
        answered = []
        for _ in range(600):
            row = dice.sample(DECK, dice.choice([0, 1, 4, 5, 8, 13, 26, 39, 52]))
            text = random_text(dice, dice.sample(DECK, 3), dice.randint(1, 6))
            expected = int(meets(text, row))
            self.check(text, row, expected)
            answered.append(expected)
        self.assertTrue(100 < sum(answered) < 500)


class Meets(Unchanged):
    setup = [view_of(2, cards_of("C2 C3 CA DK")), give(card("CA"), 0), give(card("C2"), 1), hand("CA | s > 2"),
             rest("C2 & pts = 0")]

    def test_whatever_is_unseen_or_known(self):
        # Known not to be in it, seen, and more cards than the hand has.
        self.assertEqual(last(*self.setup, met(0, cards_of("CA"))), [0, 1])
        self.assertEqual(last(*self.setup, met(0, cards_of("S2 S3 S4"))), [0, 1])
        self.assertEqual(last(*self.setup, met(0, cards_of("C2 C3"))), [0, 0])
        self.assertEqual(last(*self.setup, met(0, DECK)), [0, 1])
        self.assertEqual(last(*self.setup, met(0, [])), [0, 0])
        # The card is known to be in the hand, so it is in no rest.
        self.assertEqual(last(*self.setup, met(1, cards_of("C2"))), [0, 1])
        self.assertEqual(last(*self.setup, met(1, cards_of("C2 HJ"))), [0, 0])
        self.assertEqual(last(*self.setup, met(1, cards_of("C2 H9 S4 D3"))), [0, 1])
        self.assertEqual(last(*self.setup, met(1, [])), [0, 0])

    def test_named_cards_that_are_seen(self):
        self.assertEqual(ask(*self.setup[:1], hand("SA"), met(0, [51]), met(0, [50]), met(1, [50]))[2:],
                         [[0, 1], [0, 0], [0, 1]])

    def test_before_the_first_call(self):
        self.assertEqual(ask(met(0, []), met(1, []), met(0, DECK), met(1, [5])), [[0, 1]] * 4)

    def test_after_a_refused_text_and_a_view(self):
        self.assertEqual(last(*self.setup, hand("any &"), met(0, [])), [0, 0])
        self.assertEqual(last(*self.setup, view_of(0, []), met(0, [])), [0, 1])
        self.assertEqual(last(*self.setup, view_of(0, []), met(1, [])), [0, 1])

    def test_ranges(self):
        for which, row in ((2, []), (-1, []), (HUGE, []), (-HUGE, [1]), (0, [52]), (1, [-1]), (0, [HUGE]),
                           (1, [3, 3]), (0, [0] * 60), (2, [52]), (0, list(DECK) + [0])):
            self.assert_refused(self.setup, met(which, row), -1)

    def test_nothing_is_changed(self):
        self.assert_unchanged(self.setup, [met(0, [3]), met(1, DECK), met(0, [])])


if __name__ == "__main__":
    unittest.main()
