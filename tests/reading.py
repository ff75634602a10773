"""Texts read by another way than the program's: the place at which one is wrong, and its one text."""

import ast
import re

from plain import RELATIONS, tokens

TERMS = ("pts", "c", "d", "h", "s")


def pieces(text):
    """Kind, piece and place of each token, found sign by sign."""
    at = 0
    while at < len(text):
        start = at
        sign = text[at]
        if sign == " ":
            at += 1
            continue
        if sign.islower() and sign.isascii():
            while at < len(text) and text[at].islower() and text[at].isascii():
                at += 1
            yield "word", text[start:at], start
        elif sign in "0123456789":
            while at < len(text) and text[at] in "0123456789":
                at += 1
            yield "digits", text[start:at], start
        elif sign in "CDHS" and text[at + 1:at + 2] and text[at + 1] in "23456789TJQKA":
            at += 2
            yield "card", text[start:at], start
        elif text[at:at + 2] in ("<=", ">=", "!="):
            at += 2
            yield "sign", text[start:at], start
        elif sign in "<>=()&|!+-":
            at += 1
            yield "sign", sign, start
        else:
            yield "bad", sign, start
            return
    yield "end", "", len(text)


class Machine:
    """Takes tokens one at a time; a state, a stack of what is unended, and no calls."""

    def __init__(self):
        self.state = "begin"
        self.nest = []
        self.terms = 0
        self.low = 0

    def done(self):
        while self.nest and self.nest[-1] == "!":
            self.nest.pop()
        self.state = "done"
        return True

    def takes(self, kind, piece):
        return getattr(self, "at_" + self.state)(kind, piece)

    def at_begin(self, kind, piece):
        if piece in ("!", "("):
            self.nest.append(piece)
            return len(self.nest) <= 20
        if piece in ("any", "bal") or kind == "card":
            return self.done()
        if piece in ("shape", "exact"):
            self.state = "lengths"
            return True
        self.terms = 1
        self.state = "left"
        return piece in TERMS

    def at_lengths(self, kind, piece):
        return kind == "digits" and len(piece) == 4 and self.done()

    def more_terms(self, state):
        self.terms += 1
        self.state = state
        return self.terms <= 8

    def at_left(self, kind, piece):
        if piece == "+":
            return self.more_terms("left_term")
        if kind == "digits":
            self.low = int(piece)
            self.state = "dash"
            return len(piece) <= 2
        self.state = "related"
        return piece in RELATIONS

    def at_left_term(self, kind, piece):
        self.state = "left"
        return piece in TERMS

    def at_dash(self, kind, piece):
        self.state = "high"
        return piece == "-"

    def at_high(self, kind, piece):
        return kind == "digits" and len(piece) <= 2 and int(piece) >= self.low and self.done()

    def at_related(self, kind, piece):
        if kind == "digits":
            return len(piece) <= 2 and self.done()
        self.terms = 1
        self.state = "right"
        return piece in TERMS

    def at_right(self, kind, piece):
        if piece == "+":
            return self.more_terms("right_term")
        self.done()
        return self.at_done(kind, piece)

    def at_right_term(self, kind, piece):
        self.state = "right"
        return piece in TERMS

    def at_done(self, kind, piece):
        if piece in ("&", "|"):
            self.state = "begin"
            return True
        if piece == ")" and self.nest:
            self.nest.pop()
            return self.done()
        return kind == "end" and not self.nest


def place_by_machine(text):
    machine = Machine()
    for kind, piece, place in pieces(text):
        if kind == "bad" or not machine.takes(kind, piece):
            return place
    return None


# Its one text: Python itself nests the parts, as not, and, or bind like !, & and |.

SUM = r"(?:pts|[cdhs])\b(?: \+ (?:pts|[cdhs])\b)*"
ATOM = re.compile(rf"\b(?:any|bal|[CDHS][2-9TJQKA]|(?:shape|exact) \d{{4}}"
                  rf"|{SUM} (?:\d+ - \d+|(?:<=|>=|!=|<|>|=) (?:\d+|{SUM})))(?![0-9a-z])")


def atom_text(atom):
    if atom.startswith("shape"):
        return "shape " + "".join(sorted(atom[6:], reverse=True))
    if atom.startswith("exact"):
        return atom
    spoken = re.sub(r"\b0+(\d)", r"\1", atom) if atom[0] in "pcdhs" else atom
    return spoken.replace(" - ", "-")


def node_text(node, atoms):
    if isinstance(node, ast.Name):
        return atoms[int(node.id[1:])]
    if isinstance(node, ast.UnaryOp):
        return "!" + in_brackets(node.operand, atoms, (ast.And, ast.Or))
    if isinstance(node.op, ast.And):
        first = in_brackets(node.values[0], atoms, (ast.Or,))
        return " & ".join([first] + [in_brackets(part, atoms, (ast.And, ast.Or)) for part in node.values[1:]])
    first = node_text(node.values[0], atoms)
    return " | ".join([first] + [in_brackets(part, atoms, (ast.Or,)) for part in node.values[1:]])


def in_brackets(node, atoms, joining):
    text = node_text(node, atoms)
    return f"({text})" if isinstance(node, ast.BoolOp) and isinstance(node.op, joining) else text


def one_text(text):
    atoms = []

    def name(match):
        atoms.append(atom_text(match.group()))
        return f"a{len(atoms) - 1}"

    spoken = ATOM.sub(name, " ".join(tokens(text)))
    spoken = spoken.replace("!", " not ").replace("&", " and ").replace("|", " or ")
    return node_text(ast.parse(spoken.strip(), mode="eval").body, atoms)
