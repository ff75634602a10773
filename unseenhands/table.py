"""The way in: one list of calls on a new object, answered call by call."""

from unseenhands.calls import CALLS
from unseenhands.grammar import WrongText
from unseenhands.view import View

# Less the place, the refusal of a wrong text.
WRONG_TEXT = -1000


def answer_of(view, answering, numbers, row):
    try:
        return answering(view, numbers, row)
    except WrongText as wrong:
        return [WRONG_TEXT - wrong.wrong_at]


# For each call how many numbers are answered, then these.
def answers(calls):
    view = View()
    answered = []
    place = 0
    while place < len(calls):
        form = CALLS[calls[place]]
        start = place + 1
        end = start + form[0]
        numbers = calls[start:end]
        row = []
        if form[1] == 1:
            start = end + 1
            end = start + calls[start - 1]
            row = calls[start:end]
        answer = answer_of(view, form[2], numbers, row)
        answered.append(len(answer))
        answered.extend(answer)
        place = end
    return answered
