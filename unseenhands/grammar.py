"""Texts of conditions, read into programs.

A program is a tuple of steps in the order in which they are worked out: what is
joined stands ahead of what joins it. So a long text needs no deep nesting later.
The steps:
  ("any",)  ("bal",)  ("shape", digits falling)  ("exact", digits)  ("card", card)
  ("compare", terms, relation, the other sum's terms or (), number or 0)
  ("range", terms, low, high)  ("not",)  ("and",)  ("or",)
"""

from unseenhands.cards import card_of_signs
from unseenhands.tokens import CARD, DIGITS, END, tokens_of

TERMS = ("pts", "c", "d", "h", "s")
RELATION_SIGNS = ("<", "<=", ">", ">=", "=", "!=")
MOST_TERMS = 8
DEEPEST = 20

ANY_PROGRAM = (("any",),)


# The text is wrong at a place.
class WrongText(Exception):
    def __init__(self, wrong_at):
        Exception.__init__(self, "the text is wrong")
        self.wrong_at = wrong_at


# Goes over the tokens once; refuses at the first that can't stand where it is.
class Reader:
    def __init__(self, tokens):
        self.tokens = tokens
        self.position = 0
        self.steps = []

    def kind(self):
        return self.tokens[self.position][0]

    def piece(self):
        return self.tokens[self.position][1]

    def refuse(self):
        raise WrongText(self.tokens[self.position][2])

    def advance(self):
        piece = self.piece()
        self.position += 1
        return piece

    def expect(self, sign):
        if self.piece() != sign:
            self.refuse()
        self.advance()

    def read_all(self):
        self.read_cond(0)
        if self.kind() != END:
            self.refuse()

    def read_cond(self, depth):
        self.read_conj(depth)
        while self.piece() == "|":
            self.advance()
            self.read_conj(depth)
            self.steps.append(("or",))

    def read_conj(self, depth):
        self.read_unary(depth)
        while self.piece() == "&":
            self.advance()
            self.read_unary(depth)
            self.steps.append(("and",))

    def read_unary(self, depth):
        piece = self.piece()
        if piece in ("!", "("):
            self.read_nested(depth + 1)
        elif piece in ("any", "bal"):
            self.steps.append((self.advance(),))
        elif piece in ("shape", "exact"):
            self.read_lengths()
        elif self.kind() == CARD:
            self.steps.append(("card", card_of_signs(self.advance())))
        elif piece in TERMS:
            self.read_comparison()
        else:
            self.refuse()

    def read_nested(self, depth):
        if depth > DEEPEST:
            self.refuse()
        if self.advance() == "!":
            self.read_unary(depth)
            self.steps.append(("not",))
        else:
            self.read_cond(depth)
            self.expect(")")

    def read_lengths(self):
        word = self.advance()
        if not self.has_digits(4, 4):
            self.refuse()
        digits = [int(digit) for digit in self.advance()]
        if word == "shape":
            digits = sorted(digits, reverse=True)
        self.steps.append((word, tuple(digits)))

    def has_digits(self, fewest, most):
        return self.kind() == DIGITS and fewest <= len(self.piece()) <= most

    def read_number(self, lowest):
        if not self.has_digits(1, 2) or int(self.piece()) < lowest:
            self.refuse()
        return int(self.advance())

    def read_comparison(self):
        terms = self.read_sum()
        if self.kind() == DIGITS:
            low = self.read_number(0)
            self.expect("-")
            self.steps.append(("range", terms, low, self.read_number(low)))
        elif self.piece() in RELATION_SIGNS:
            relation = self.advance()
            if self.kind() == DIGITS:
                self.steps.append(("compare", terms, relation, (), self.read_number(0)))
            else:
                self.steps.append(("compare", terms, relation, self.read_sum(), 0))
        else:
            self.refuse()

    def read_sum(self):
        terms = [self.read_term()]
        while self.piece() == "+":
            if len(terms) == MOST_TERMS:
                self.refuse()
            self.advance()
            terms.append(self.read_term())
        return tuple(terms)

    def read_term(self):
        if self.piece() not in TERMS:
            self.refuse()
        return self.advance()


# The program of a row of bytes; raises WrongText if it isn't a right text.
def program_of(row):
    reader = Reader(tokens_of(row))
    reader.read_all()
    return tuple(reader.steps)


# The unlike cards that these programs name together, rising.
def cards_named(programs):
    named = {}
    for program in programs:
        for step in program:
            if step[0] == "card":
                named[step[1]] = True
    return sorted(named)
