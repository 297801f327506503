"""The interface: the calls on one new chest, and their answers, each as one list of whole numbers."""

from chestkeys.calls import answer
from chestkeys.record import new_record

# The calls that are given one list, one whole number, or two; all others are given nothing.
WITH_LIST = (1, 2, 4, 12, 20, 22, 23)
WITH_NUMBER = (5, 7, 18, 19, 25)
WITH_TWO_NUMBERS = (16,)


def where_given(calls, place):
    """Where that begins which the call at this place is given."""
    return place + 2 if calls[place] in WITH_LIST else place + 1


def how_many_given(calls, place):
    """How many numbers the call at this place is given."""
    number = calls[place]
    if number in WITH_LIST:
        return calls[place + 1]
    if number in WITH_TWO_NUMBERS:
        return 2
    return 1 if number in WITH_NUMBER else 0


def answers(calls):
    """For each call, in order, how many numbers are answered, then these."""
    record = new_record()
    answered = []
    place = 0
    while place < len(calls):
        start = where_given(calls, place)
        end = start + how_many_given(calls, place)
        numbers = answer(record, calls[place], calls[start:end])
        answered.append(len(numbers))
        answered.extend(numbers)
        place = end
    return answered
