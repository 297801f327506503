"""Short ways to write calls and to take answers apart."""

from chestkeys.chest import answers

CLEAR, TEXT, TOLD, LEAST, FORBIDDEN, LOCKS, KEYS, SWINGS = [0], [3], [6], [8], [9], [10], [11], [13]


def listed(number, numbers):
    """A call with one list."""
    return [number, len(numbers)] + list(numbers)


def as_bytes(text):
    return list(text.encode("latin-1"))


def file(text):
    return listed(1, as_bytes(text))


def look(text):
    return listed(2, as_bytes(text))


def event(text):
    return listed(4, as_bytes(text))


def undo(k):
    return [5, k]


def may(company):
    return [7, company]


def scheme(locks):
    return listed(12, locks)


def apart(numbers):
    """Each call's answer as a list of its own."""
    found = []
    place = 0
    while place < len(numbers):
        end = place + 1 + numbers[place]
        if numbers[place] < 1 or end > len(numbers):
            raise AssertionError(f"an answer of {numbers[place]} numbers at {place} of {len(numbers)}")
        found.append(numbers[place + 1:end])
        place = end
    return found


def run(*calls):
    """The answers to these calls on one new chest."""
    found = apart(answers([number for call in calls for number in call]))
    if len(found) != len(calls):
        raise AssertionError(f"{len(found)} answers to {len(calls)} calls")
    return found


def last(*calls):
    """The answer to the last of these calls."""
    return run(*calls)[-1]


def one_text(*calls):
    """The one text behind these calls."""
    answer = last(*calls, TEXT)
    if answer[0] != 0:
        raise AssertionError(f"text answers {answer[0]}")
    return bytes(answer[1:]).decode("latin-1")


def ruled(names, rule):
    """The call that files these officers and this rule."""
    return file(f"{' '.join(['officers'] + names.split())}\nrule {rule}")


def officers(count):
    """So many names."""
    return " ".join("abcdef"[:count])
