"""What a call is given must be such as the call asks for; else it's refused."""

from chestkeys.reading import MOST_EVENTS, MOST_OFFICERS
from chestkeys.refusals import NotThere, OutOfRange, WrongBytes, WrongList

MOST_BYTES = 2000
LAST_BYTE = 255
MOST_LOCKS = 100
LAST_COMPANY = 63
GREATEST_WEIGHT = 1000
GREATEST_SOUGHT = 5


def check_range(number, last):
    """A whole number is from 0 to the last one."""
    if not 0 <= number <= last:
        raise OutOfRange()


def check_company(company, record):
    """A company is in its range, and there."""
    check_range(company, LAST_COMPANY)
    if company >= len(record.rule.allowed):
        raise NotThere()


def check_officer(officer, record):
    """An officer is in the range of officers, and there."""
    check_range(officer, MOST_OFFICERS - 1)
    if officer >= len(record.names):
        raise NotThere()


def check_how_many_events(number, record):
    """A number of events is in its range, and there are so many."""
    check_range(number, MOST_EVENTS)
    if number > len(record.events):
        raise NotThere()


def check_sought(most):
    """The weights that are sought have a range that's not too wide."""
    check_range(most, GREATEST_SOUGHT)


def check_bytes(text):
    """A text is bytes, and not too many."""
    if len(text) > MOST_BYTES or not all([0 <= number <= LAST_BYTE for number in text]):
        raise WrongBytes()


def check_locks(locks, record):
    """Locks are companies that there are, and not too many."""
    companies = len(record.rule.allowed)
    if len(locks) > MOST_LOCKS or not all([0 <= lock < companies for lock in locks]):
        raise WrongList()


def check_weights(weights, record):
    """Weights are a number for each officer, in their range."""
    if len(weights) != len(record.names) or not all([0 <= number <= GREATEST_WEIGHT for number in weights]):
        raise WrongList()
