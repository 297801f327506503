"""The calls: what each one checks, changes and answers.

Each takes the record and the whole numbers, or the one list, that it's given; its answer is a list of numbers.
"""

from chestkeys.companies import forbidden_companies, key_count, least_companies, rule_locks
from chestkeys.companies import swing_count, where_otherwise
from chestkeys.reading import MOST_EVENTS, read_file, read_one_event
from chestkeys.record import new_record, one_text
from chestkeys.refusals import Fault, NoCall, NotThere, OutOfRange, Refusal, WrongBytes, WrongList

MOST_BYTES = 2000
LAST_BYTE = 255
MOST_LOCKS = 100
LAST_COMPANY = 63


def check_range(number, last):
    """A whole number is from 0 to the last one."""
    if not 0 <= number <= last:
        raise OutOfRange()


def check_bytes(text):
    """A text is bytes, and not too many."""
    if len(text) > MOST_BYTES or not all([0 <= number <= LAST_BYTE for number in text]):
        raise WrongBytes()


def check_locks(locks, companies):
    """Locks are companies that there are, and not too many."""
    if len(locks) > MOST_LOCKS or not all([0 <= lock < companies for lock in locks]):
        raise WrongList()


def counted(numbers):
    """A list as it's answered: how many, then these."""
    return [len(numbers)] + numbers


def record_least(record):
    """The least companies of the record's rule."""
    return least_companies(record.rule.allowed, len(record.names))


def record_forbidden(record):
    """The greatest forbidden companies of the record's rule."""
    return forbidden_companies(record.rule.allowed, len(record.names))


def record_locks(record):
    """The locks of the record's rule."""
    return rule_locks(record.rule.allowed, len(record.names))


def answer_clear(record, given):
    """Call 0."""
    record.become(new_record())
    return [0]


def answer_file(record, given):
    """Call 1."""
    check_bytes(given)
    record.become(read_file(given))
    return [len(record.names), len(record.events)]


def answer_look(record, given):
    """Call 2."""
    check_bytes(given)
    try:
        read_file(given)
    except Fault as fault:
        return [1, fault.place]
    return [0]


def answer_text(record, given):
    """Call 3."""
    return [0] + [ord(sign) for sign in one_text(record)]


def answer_event(record, given):
    """Call 4."""
    check_bytes(given)
    record.events.append(read_one_event(given, record))
    return [len(record.events)]


def answer_undo(record, given):
    """Call 5."""
    kept = given[0]
    check_range(kept, MOST_EVENTS)
    if kept > len(record.events):
        raise NotThere()
    record.events = record.events[:kept]
    return [kept]


def answer_told(record, given):
    """Call 6."""
    companies = [len(record_least(record)), len(record_forbidden(record))]
    return [len(record.names), len(record.events)] + companies


def answer_may(record, given):
    """Call 7."""
    company = given[0]
    check_range(company, LAST_COMPANY)
    if company >= len(record.rule.allowed):
        raise NotThere()
    return [1 if record.rule.allowed[company] else 0]


def answer_least(record, given):
    """Call 8."""
    return counted(record_least(record))


def answer_forbidden(record, given):
    """Call 9."""
    return counted(record_forbidden(record))


def answer_locks(record, given):
    """Call 10."""
    return counted(record_locks(record))


def answer_keys(record, given):
    """Call 11."""
    locks = record_locks(record)
    return counted([key_count(locks, officer) for officer in range(len(record.names))])


def answer_scheme(record, given):
    """Call 12."""
    check_locks(given, len(record.rule.allowed))
    otherwise = where_otherwise(record.rule.allowed, given)
    return [0, otherwise[0]] if len(otherwise) > 0 else [1]


def answer_swings(record, given):
    """Call 13."""
    return counted([swing_count(record.rule.allowed, officer) for officer in range(len(record.names))])


# By the calls' numbers.
ANSWERERS = (
    answer_clear, answer_file, answer_look, answer_text, answer_event, answer_undo, answer_told,
    answer_may, answer_least, answer_forbidden, answer_locks, answer_keys, answer_scheme, answer_swings,
)


def answer(record, number, given):
    """What's answered to the call of this number; a refusal is its number alone."""
    try:
        if not 0 <= number < len(ANSWERERS):
            raise NoCall()
        return ANSWERERS[number](record, given)
    except Refusal as refusal:
        return [refusal.number]
