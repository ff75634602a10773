"""The way in: one list of calls on a new object, answered call by call."""

from unseenhands.calls import (
    call_chance,
    call_count,
    call_give,
    call_hand,
    call_holds,
    call_kth,
    call_rest,
    call_take,
    call_view,
)
from unseenhands.grammar import WrongText
from unseenhands.view import View

# Less the place, the refusal of a wrong text.
WRONG_TEXT = -1000

# By the call's number: how many whole numbers it has, and how many rows.
FORMS = (
    (1, 1),
    (2, 0),
    (1, 0),
    (0, 1),
    (0, 1),
    (0, 0),
    (0, 0),
    (1, 0),
    (1, 0),
    (0, 1),
    (1, 0),
    (0, 0),
    (1, 0),
    (1, 1),
    (0, 1),
    (1, 0),
    (0, 0),
)

# By the call's number, for the calls that are built.
BUILT = (
    call_view,
    call_give,
    call_take,
    call_hand,
    call_rest,
    call_count,
    call_chance,
    call_holds,
    call_kth,
)


def answer_of(view, call, numbers, row):
    # Calls that aren't built yet answer no number, so later ones keep their places.
    if call >= len(BUILT):
        return []
    try:
        return BUILT[call](view, numbers, row)
    except WrongText as wrong:
        return [WRONG_TEXT - wrong.wrong_at]


# For each call how many numbers are answered, then these.
def answers(calls):
    view = View()
    answered = []
    place = 0
    while place < len(calls):
        call = calls[place]
        form = FORMS[call]
        start = place + 1
        end = start + form[0]
        numbers = calls[start:end]
        row = []
        if form[1] == 1:
            start = end + 1
            end = start + calls[start - 1]
            row = calls[start:end]
        answer = answer_of(view, call, numbers, row)
        answered.append(len(answer))
        answered.extend(answer)
        place = end
    return answered
