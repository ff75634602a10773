"""The one text of a condition, from its program."""

from unseenhands.cards import signs_of_card


def plain_words(step):
    return step[0]


def lengths_words(step):
    digits = "".join([str(digit) for digit in step[1]])
    return step[0] + " " + digits


def card_words(step):
    return signs_of_card(step[1])


def sum_words(terms):
    return " + ".join(terms)


def compare_words(step):
    other = sum_words(step[3]) if len(step[3]) > 0 else str(step[4])
    return sum_words(step[1]) + " " + step[2] + " " + other


def range_words(step):
    return sum_words(step[1]) + " " + str(step[2]) + "-" + str(step[3])


PLAIN_WORDS = {
    "any": plain_words,
    "bal": plain_words,
    "shape": lengths_words,
    "exact": lengths_words,
    "card": card_words,
    "compare": compare_words,
    "range": range_words,
}


# The part's text, in brackets if what joins it is one of these.
def enclosed(part, joining):
    return "(" + part[1] + ")" if part[0] in joining else part[1]


# A part is a tuple: the name of its last step, which joins it, and its text.
def text_of(program):
    parts = []
    for step in program:
        joined = step[0]
        if joined == "not":
            denied = parts.pop()
            parts.append((joined, "!" + enclosed(denied, ("and", "or"))))
        elif joined == "and":
            right = parts.pop()
            left = parts.pop()
            parts.append((joined, enclosed(left, ("or",)) + " & " + enclosed(right, ("and", "or"))))
        elif joined == "or":
            right = parts.pop()
            left = parts.pop()
            parts.append((joined, left[1] + " | " + enclosed(right, ("or",))))
        else:
            parts.append((joined, PLAIN_WORDS[joined](step)))
    return parts.pop()[1]
