"""What the tests share: lines of calls, and plain ways to the same answers.

The plain ways walk hands one by one, or state by state, and read texts by other means
than the program does, so that a fault of the program isn't repeated here.
"""

import functools
import itertools
import re
import unittest
from collections import Counter
from fractions import Fraction

from unseenhands.table import answers

SUITS = "CDHS"
RANKS = "23456789TJQKA"
DECK = range(52)
HUGE = 10 ** 18


# Lines of calls

def view(x, seen):
    return [0, x, len(seen)] + list(seen)


def view_of(x, unseen):
    return view(x, [card for card in DECK if card not in unseen])


def give(card, there):
    return [1, card, there]


def take(card):
    return [2, card]


def text_row(text):
    row = list(text.encode("latin-1")) if isinstance(text, str) else list(text)
    return [len(row)] + row


def hand(text):
    return [3] + text_row(text)


def rest(text):
    return [4] + text_row(text)


COUNT = [5]
CHANCE = [6]


def holds(card):
    return [7, card]


def kth(k):
    return [8, k]


def row_of(cards):
    return [len(cards)] + list(cards)


def place(cards):
    return [9] + row_of(cards)


def shapes(limit):
    return [10, limit]


POINTS = [11]


def mean(what):
    return [12, what]


def met(which, cards):
    return [13, which] + row_of(cards)


def implies(text):
    return [14] + text_row(text)


def printed(which):
    return [15, which]


TOLD = [16]


def bytes_answer(text):
    """What print answers where this is the one text."""
    return [0] + text_row(text)


def ask(*calls):
    """The answers of a line, a list for each call."""
    flat = answers([number for call in calls for number in call])
    split = []
    while flat:
        split.append(flat[1:1 + flat[0]])
        flat = flat[1 + flat[0]:]
    assert len(split) == len(calls), (len(split), len(calls))
    return split


def last(*calls):
    return ask(*calls)[-1]


def probes():
    """Ends of a line that tell all that may be seen of an object."""
    yield [COUNT, CHANCE, TOLD, printed(0), printed(1)] + [holds(card) for card in DECK] + [kth(0), kth(1), kth(7)]
    # A refused take tells unseen cards from others, and known ones from the unknown.
    yield [hand("any"), rest("any"), COUNT] + [take(card) for card in DECK] + [COUNT]
    yield [rest("any"), COUNT] + [holds(card) for card in DECK]
    yield [hand("any"), COUNT] + [holds(card) for card in DECK]
    # Naming one card more shows how many are named by the other condition.
    yield [hand("C2 & D2 & H2"), hand("C2 & D2"), hand("C2"), hand("S2 & SA"), hand("any"), COUNT]
    yield [rest("C2 & D2 & H2"), rest("C2 & D2"), rest("C2"), rest("S2 & SA"), rest("any"), COUNT]


class Unchanged(unittest.TestCase):
    def assert_refused(self, setup, call, refusal):
        """The call is refused so, and the object is as if it had never been made."""
        self.assertEqual(last(*setup, call), [refusal])
        self.assert_unchanged(setup, [call])

    def assert_unchanged(self, setup, calls):
        """The object is as if these calls had never been made."""
        for probe in probes():
            told = ask(*setup, *calls, *probe)
            self.assertEqual(told[len(setup) + len(calls):], ask(*setup, *probe)[len(setup):])


def card(signs):
    return SUITS.index(signs[0]) * 13 + RANKS.index(signs[1])


def signs(number):
    return SUITS[number // 13] + RANKS[number % 13]


def points(number):
    return {"J": 1, "Q": 2, "K": 3, "A": 4}.get(RANKS[number % 13], 0)


# What a condition means

TOKEN = re.compile(r" *([a-z]+|[0-9]+|[CDHS][2-9TJQKA]|<=|>=|!=|[-<>=()&|!+])")


def tokens(text):
    return [match.group(1) for match in TOKEN.finditer(text)]


def bal(*lengths):
    return sorted(lengths) in ([3, 3, 3, 4], [2, 3, 4, 4], [2, 3, 3, 5])


def shape(digits, *lengths):
    return sorted(int(digit) for digit in digits) == sorted(lengths)


def exact(digits, c, d, h, s):
    return [int(digit) for digit in digits] == [s, h, d, c]


@functools.lru_cache(None)
def meaning(text):
    """The right text as a function of c, d, h, s, pts and the signs of the cards."""
    spoken = " ".join(tokens(text))
    term = r"(?:pts|c|d|h|s)\b"
    spoken = re.sub(rf"\b({term}(?: \+ {term})*) (\d+) - (\d+)", r"(\2 <= \1 <= \3)", spoken)
    spoken = re.sub(r"\b(shape|exact) (\d+)", r"\1('\2', c, d, h, s)", spoken)
    spoken = re.sub(r"\bbal\b", "bal(c, d, h, s)", spoken)
    spoken = re.sub(r"\bany\b", "True", spoken)
    spoken = re.sub(r"(?<![<>!=])=(?!=)", "==", spoken)
    spoken = re.sub(r"!(?!=)", " not ", spoken).replace("&", " and ").replace("|", " or ")
    spoken = re.sub(r"\b([CDHS][2-9TJQKA])\b", r"('\1' in cards)", spoken)
    spoken = re.sub(r"(?<!['\d])0(\d)\b", r"\1", spoken)
    return eval("lambda c, d, h, s, pts, cards: " + spoken.strip(),
                {"bal": bal, "shape": shape, "exact": exact})


def meets(text, cards):
    lengths = [sum(number // 13 == suit for number in cards) for suit in range(4)]
    together = sum(points(number) for number in cards)
    return bool(meaning(text)(*lengths, together, {signs(number) for number in cards}))


# Answers worked out from hands that were told otherwise

def least(upper, lower):
    fraction = Fraction(upper, lower)
    return [0, fraction.numerator, fraction.denominator]


def spread_of(hands):
    """How many of these hands have these lengths (clubs first) and these points."""
    spread = Counter()
    for cards in hands:
        lengths = tuple(sum(number // 13 == suit for number in cards) for suit in range(4))
        spread[(lengths, sum(points(number) for number in cards))] += 1
    return spread


def shapes_answer(spread, limit):
    counted = Counter()
    for (lengths, together), ways in spread.items():
        counted[lengths[::-1]] += ways
    ordered = sorted(counted.items(), key=lambda pair: (-pair[1], -pair[0][0], -pair[0][1], -pair[0][2]))
    answer = [0, len(ordered), min(limit, len(ordered))]
    for lengths, ways in ordered[:limit]:
        answer += [*lengths, ways]
    return answer


def points_answer(spread):
    counted = Counter()
    for (lengths, together), ways in spread.items():
        counted[together] += ways
    return [0, len(counted)] + [number for pair in sorted(counted.items()) for number in pair]


def mean_answer(spread, what):
    if not spread:
        return [-7]
    whole = sum((lengths + (together,))[what] * ways for (lengths, together), ways in spread.items())
    return least(whole, sum(spread.values()))


# Hands walked one by one

def earlier(one, other):
    """The order of hands, in the document's own words."""
    differing = set(one) ^ set(other)
    if not differing:
        return 0
    return -1 if min(differing) in one else 1


class Walk:
    """All hands of a small view, and those of them that fit."""

    def __init__(self, x, unseen, known_in=(), known_out=(), hand_text="any", rest_text="any"):
        self.hand_text = hand_text
        self.rest_text = rest_text
        self.hands = []
        for hand_cards in itertools.combinations(sorted(unseen), x):
            if set(known_in) <= set(hand_cards) and not set(known_out) & set(hand_cards):
                self.hands.append(hand_cards)
        self.hands.sort(key=functools.cmp_to_key(earlier))
        self.fitting = [cards for cards in self.hands
                        if meets(hand_text, cards) and meets(rest_text, set(unseen) - set(cards))]
        self.setup = [view_of(x, unseen)]
        self.setup += [give(number, 1) for number in known_in]
        self.setup += [give(number, 0) for number in known_out]
        self.setup += [hand(hand_text), rest(rest_text)]


# Hands by their states, where they are too many to be walked

def suit_states(cards, named):
    states = Counter({(0, 0, frozenset()): 1})
    for number in cards:
        more = Counter()
        for (length, together, held), ways in states.items():
            with_it = held | {signs(number)} if number in named else held
            more[(length + 1, together + points(number), with_it)] += ways
        states += more
    return states


@functools.lru_cache(None)
def hand_states(x, unseen, named):
    """How many hands have these lengths, these points and these of the named cards."""
    states = Counter({((), 0, frozenset()): 1})
    for suit in range(4):
        of_suit = suit_states([number for number in unseen if number // 13 == suit], named)
        more = Counter()
        for (lengths, together, held), ways in states.items():
            left = x - sum(lengths)
            for (length, their, theirs), their_ways in of_suit.items():
                if length <= left:
                    more[(lengths + (length,), together + their, held | theirs)] += ways * their_ways
        states = more
    return {key: ways for key, ways in states.items() if sum(key[0]) == x}


def spread_by_states(x, unseen, hand_text, rest_text):
    """How many hands fit by lengths (clubs first) and points, nothing known; unseen is a tuple."""
    named = frozenset(card(token) for token in tokens(hand_text) + tokens(rest_text) if token[0] in SUITS)
    whole = [sum(number // 13 == suit for number in unseen) for suit in range(4)]
    whole_points = sum(points(number) for number in unseen)
    unseen_named = {signs(number) for number in named if number in unseen}
    of_hand = meaning(hand_text)
    of_rest = meaning(rest_text)
    spread = Counter()
    for (lengths, together, held), ways in hand_states(x, unseen, named).items():
        left = [most - length for most, length in zip(whole, lengths)]
        if of_hand(*lengths, together, held) and of_rest(*left, whole_points - together, unseen_named - held):
            spread[(lengths, together)] += ways
    return spread


def count_by_states(x, unseen, hand_text, rest_text):
    return sum(spread_by_states(x, unseen, hand_text, rest_text).values())


# Texts made at random

RELATIONS = ["<", "<=", ">", ">=", "=", "!="]


def random_sum(dice, most=3):
    return "+".join(dice.choice(["pts", "c", "d", "h", "s"]) for _ in range(dice.randint(1, most)))


def random_atom(dice, cards):
    kind = dice.randrange(9)
    if kind == 0:
        return dice.choice(["any", "bal"])
    if kind == 1:
        return dice.choice(["shape", "exact"]) + "".join(dice.choice("01123") for _ in range(4))
    if kind <= 3 and cards:
        return signs(dice.choice(cards))
    if kind <= 5:
        return random_sum(dice) + dice.choice(RELATIONS) + str(dice.randrange(9)).zfill(dice.randint(1, 2))
    if kind == 6:
        return random_sum(dice) + dice.choice(RELATIONS) + random_sum(dice)
    low = dice.randrange(6)
    return f"{random_sum(dice)} {low}-{low + dice.randrange(5)}"


def random_text(dice, cards, size):
    """A right text with about so many atoms, naming none but these cards."""
    if size <= 1:
        return random_atom(dice, cards)
    kind = dice.randrange(5)
    if kind == 0:
        return "!" + dice.choice([" ", ""]) + "(" + random_text(dice, cards, size) + ")"
    if kind == 1:
        return "!" + random_atom(dice, cards)
    part = dice.randint(1, size - 1)
    left = random_text(dice, cards, part)
    right = random_text(dice, cards, size - part)
    joined = dice.choice(["&", "|", " & ", " | "])
    if dice.randrange(3) == 0:
        return f"({left}){joined}( {right} )"
    return left + joined + right


# Small views made at random

def random_walk(dice):
    """A small view with known cards and conditions on the hand and on the rest."""
    unseen = dice.sample(DECK, dice.choice([0, 2, 8, 9, 10, 11]))
    x = dice.randint(0, len(unseen))
    known_in = dice.sample(unseen, dice.randint(0, x) // 2)
    others = [number for number in unseen if number not in known_in]
    known_out = dice.sample(others, dice.randint(0, len(unseen) - x) // 2)
    named = dice.sample(unseen, min(2, len(unseen))) + [dice.randrange(52)]
    texts = [random_text(dice, named, dice.randint(1, 4)) for _ in range(2)]
    return Walk(x, unseen, known_in, known_out, *texts), unseen


def telling_walk(dice):
    """One in which some hands fit and some don't."""
    while True:
        walk, unseen = random_walk(dice)
        if 3 < len(walk.fitting) < len(walk.hands):
            return walk, unseen
