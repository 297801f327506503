"""Short ways to write calls and to take answers apart."""

from chestkeys.chest import answers

CLEAR, TEXT, TOLD, LEAST, FORBIDDEN, LOCKS, KEYS, SWINGS = [0], [3], [6], [8], [9], [10], [11], [13]
POWER, IDLE, HINDER, TRADE, NOW, OPENED = [14], [15], [17], [21], [24], [26]
LEAST_NUMBER, GREATEST_NUMBER = -2 ** 63, 2 ** 63 - 1
WITH_TEXT = (1, 2, 4, 22, 23)
WITH_LIST = WITH_TEXT + (12, 20)


def listed(number, numbers):
    """A call with one list."""
    return [number, len(numbers)] + list(numbers)


def as_bytes(text):
    return list(text.encode("latin-1"))


def file(text):
    return listed(1, as_bytes(text))


def look(text):
    return listed(2, as_bytes(text))


def event(text):
    return listed(4, as_bytes(text))


def undo(k):
    return [5, k]


def may(company):
    return [7, company]


def scheme(locks):
    return listed(12, locks)


def alike(a, b):
    return [16, a, b]


def without(company):
    return [18, company]


def weights(m):
    return [19, m]


def weigh(numbers):
    return listed(20, numbers)


def rule(text):
    return listed(22, as_bytes(text))


def compare(text):
    return listed(23, as_bytes(text))


def behind(k):
    return [25, k]


def apart(numbers):
    """Each call's answer as a list of its own."""
    found = []
    place = 0
    while place < len(numbers):
        end = place + 1 + numbers[place]
        if numbers[place] < 1 or end > len(numbers):
            raise AssertionError(f"an answer of {numbers[place]} numbers at {place} of {len(numbers)}")
        found.append(numbers[place + 1:end])
        place = end
    return found


def run(*calls):
    """The answers to these calls on one new chest."""
    found = apart(answers([number for call in calls for number in call]))
    if len(found) != len(calls):
        raise AssertionError(f"{len(found)} answers to {len(calls)} calls")
    return found


def last(*calls):
    """The answer to the last of these calls."""
    return run(*calls)[-1]


def one_text(*calls):
    """The one text behind these calls."""
    answer = last(*calls, TEXT)
    if answer[0] != 0:
        raise AssertionError(f"text answers {answer[0]}")
    return bytes(answer[1:]).decode("latin-1")


def ruled(names, rule):
    """The call that files these officers and this rule."""
    return file(f"{' '.join(['officers'] + names.split())}\nrule {rule}")


def officers(count):
    """So many names."""
    return " ".join("abcdef"[:count])


def mays_behind(*calls):
    """The companies that may behind these calls."""
    count = last(*calls, TOLD)[0]
    found = run(*calls, *[may(company) for company in range(2 ** count)])[len(calls):]
    return [company for company, answer in enumerate(found) if answer == [1]]


def falling_sets(count):
    """All sets of companies of so many officers, none of which is in another one: the least companies of rules."""
    found = [()]
    for company in range(2 ** count):
        found += [some + (company,) for some in found
                  if all(other & company not in (other, company) for other in some)]
    return found


def rule_of(least):
    """A rule with these least companies."""
    parts = [" and ".join("abcdef"[n] for n in range(6) if company >> n & 1) or "anybody" for company in least]
    return " or ".join(parts) or "nobody"
