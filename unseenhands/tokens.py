"""Texts of conditions, cut into tokens from the left to the right.

A token is a tuple: its kind, its piece of the text, and the place of its first byte.
"""

from unseenhands.cards import RANK_SIGNS, SUIT_SIGNS

WORD = "word"
DIGITS = "digits"
CARD = "card"
SIGN = "sign"
BAD = "bad"
END = "end"

LETTER_SIGNS = "abcdefghijklmnopqrstuvwxyz"
DIGIT_SIGNS = "0123456789"
BLANK = " "
LONG_SIGNS = ("<=", ">=", "!=")
SHORT_SIGNS = "<>=()&|!+-"

# Stands for every byte that no token may have, so that places stay as they are.
STRANGE = "?"


# The row of bytes as a text of the same length.
def readable(row):
    signs = {}
    for sign in LETTER_SIGNS + DIGIT_SIGNS + BLANK + SHORT_SIGNS + SUIT_SIGNS + RANK_SIGNS:
        signs[ord(sign)] = sign
    return "".join([signs.get(byte, STRANGE) for byte in row])


# The longest piece from this place on that has only these signs.
def run_at(text, place, members):
    end = place
    while end < len(text) and text[end] in members:
        end += 1
    return text[place:end]


def is_card(piece):
    return len(piece) == 2 and piece[0] in SUIT_SIGNS and piece[1] in RANK_SIGNS


def token_at(text, place):
    sign = text[place]
    pair = text[place:place + 2]
    if sign in LETTER_SIGNS:
        return (WORD, run_at(text, place, LETTER_SIGNS), place)
    if sign in DIGIT_SIGNS:
        return (DIGITS, run_at(text, place, DIGIT_SIGNS), place)
    if is_card(pair):
        return (CARD, pair, place)
    if pair in LONG_SIGNS:
        return (SIGN, pair, place)
    if sign in SHORT_SIGNS:
        return (SIGN, sign, place)
    return (BAD, sign, place)


# All tokens of a row of bytes, the end of the text as the last of them.
def tokens_of(row):
    text = readable(row)
    tokens = []
    place = 0
    while place < len(text):
        if text[place] == BLANK:
            place += 1
        else:
            token = token_at(text, place)
            tokens.append(token)
            place += len(token[1])
    tokens.append((END, "", len(text)))
    return tokens
