"""Promise 9: place, against kth and against a walk over all hands."""

import itertools
import random
import unittest

from plain import (COUNT, DECK, HUGE, Unchanged, Walk, ask, card, give, hand, kth, last, place, random_walk, rest,
                   take, telling_walk, view_of)


def places(setup, rows):
    """What place answers of each of these rows, asked in lines of four."""
    told = []
    for start in range(0, len(rows), 4):
        asked = [place(row) for row in rows[start:start + 4]]
        told += ask(*setup, *asked)[len(setup):]
    return told


class AgainstWalk(unittest.TestCase):
    def setUp(self):
        dice = random.Random(11)
        self.walks = [random_walk(dice) for _ in range(40)] + [telling_walk(dice) for _ in range(60)]

    def test_hands_that_fit(self):
        dice = random.Random(12)
        for walk, unseen in self.walks:
            chosen = [0, len(walk.fitting) - 1, dice.randrange(len(walk.fitting))] if walk.fitting else []
            rows = [dice.sample(walk.fitting[k], len(walk.fitting[k])) for k in chosen]
            self.assertEqual(places(walk.setup, rows), [[0, k] for k in chosen])

    def test_hands_that_do_not_fit(self):
        dice = random.Random(13)
        for walk, unseen in self.walks:
            others = [cards for cards in walk.hands if cards not in set(walk.fitting)]
            rows = dice.sample(others, min(4, len(others)))
            self.assertEqual(places(walk.setup, rows), [[-7]] * len(rows))

    def test_rows_of_any_cards(self):
        dice = random.Random(14)
        for walk, unseen in self.walks:
            rows = [dice.sample(DECK, dice.randint(0, 14)) for _ in range(2)]
            rows += [dice.sample(unseen, dice.randint(0, len(unseen))) for _ in range(2)]
            numbers = {cards: k for k, cards in enumerate(walk.fitting)}
            expected = [numbers.get(tuple(sorted(row))) for row in rows]
            self.assertEqual(places(walk.setup, rows), [[-7] if k is None else [0, k] for k in expected])

    def test_all_rows_of_one_view(self):
        walk = Walk(3, [0, 5, 12, 13, 30, 38, 51, 50], [38], [13], "pts > 4 | H6", "s >= 1 | C2")
        numbers = {cards: k for k, cards in enumerate(walk.fitting)}
        self.assertTrue(3 < len(numbers) < len(walk.hands))
        rows = [row for size in range(5) for row in itertools.combinations([0, 5, 12, 13, 30, 38, 50, 51], size)]
        self.assertEqual(places(walk.setup, rows),
                         [[0, numbers[row]] if row in numbers else [-7] for row in rows])

    def test_place_of_kth(self):
        for walk, unseen in self.walks:
            for k in (0, len(walk.fitting) // 2, len(walk.fitting) - 1):
                if 0 <= k < len(walk.fitting):
                    told = last(*walk.setup, kth(k))
                    self.assertEqual(last(*walk.setup, place(told[1:])), [0, k])


class Place(Unchanged):
    setup = [view_of(3, range(8)), give(0, 1), give(1, 0), hand("C4 | C5")]

    def test_numbers(self):
        self.assertEqual(ask(*self.setup, place([0, 2, 3]), place([0, 2, 4]), place([0, 3, 4]), place([0, 3, 7]))[4:],
                         [[0, 0], [0, 1], [0, 5], [0, 8]])

    def test_order_of_the_row_does_not_matter(self):
        rows = list(itertools.permutations([0, 2, 7]))
        self.assertEqual(places(self.setup, rows), [[0, 4]] * 6)

    def test_lowest_card_goes_first(self):
        setup = [view_of(2, [3, 20, 40])]
        self.assertEqual(ask(*setup, place([3, 20]), place([3, 40]), place([20, 40]))[1:], [[0, 0], [0, 1], [0, 2]])

    def test_no_hand(self):
        for row in ([], [0], [0, 2], [0, 2, 3, 4], range(8), DECK, [0, 2, 8], [0, 2, 51], [8, 9, 10], [0, 1, 2],
                    [2, 3, 4], [1, 2, 3]):
            self.assert_refused(self.setup, place(row), -7)

    def test_does_not_fit(self):
        self.assert_refused(self.setup, place([0, 4, 5]), -7)
        self.assert_refused(self.setup + [rest("C4")], place([0, 2, 3]), -7)
        self.assertEqual(last(*self.setup, rest("C4"), place([0, 3, 4])), [0, 0])
        self.assert_refused(self.setup + [rest("!any")], place([0, 2, 3]), -7)

    def test_ranges(self):
        for row in ([0, 2, 52], [0, 2, -1], [0, 2, HUGE], [-HUGE], [0, 2, 2], [0, 2, 3, 3], [0] * 60, [5, 5]):
            self.assert_refused(self.setup, place(row), -1)

    def test_ranges_go_before_no_hand(self):
        self.assertEqual(last(place([0, 0])), [-1])
        self.assertEqual(last(place([52])), [-1])
        self.assertEqual(last(place(list(range(52)) + [99])), [-1])
        self.assertEqual(last(place([0])), [-7])

    def test_empty_hand(self):
        self.assertEqual(ask(place([]), place([1])), [[0, 0], [-7]])
        self.assertEqual(ask(view_of(0, range(9)), place([]), hand("c > 0"), place([])), [[0, 9], [0, 0], [0], [-7]])

    def test_hand_of_all(self):
        self.assertEqual(ask(view_of(2, [7, 9]), place([9, 7]), place([7])), [[0, 2], [0, 0], [-7]])

    def test_nothing_is_changed(self):
        self.assert_unchanged(self.setup, [place([0, 2, 3])])
        self.assert_unchanged(self.setup, [place([0, 3, 7])])

    def test_after_take(self):
        setup = self.setup + [take(0), take(1), hand("any"), COUNT]
        self.assertEqual(ask(*setup, place([0, 1, 2]), place([0, 2, 3]), place([5, 6, 7]))[-4:],
                         [[0, 56, 56], [0, 0], [0, 6], [0, 55]])

    def test_after_a_refused_give(self):
        self.assertEqual(last(*self.setup, give(0, 0), give(9, 1), place([0, 3, 7])), [0, 8])

    def test_cards_known_count_for_conditions(self):
        setup = [view_of(2, [card("CA"), card("C2"), card("C3")]), give(card("CA"), 1), hand("pts = 4")]
        self.assertEqual(last(*setup, place([card("CA"), card("C3")])), [0, 1])


if __name__ == "__main__":
    unittest.main()
