"""The calls: what each one checks, changes and answers.

Each takes the record and the whole numbers, or the one list, that it's given; its answer is a list of numbers.
"""

from chestkeys.checks import check_bytes, check_company, check_how_many_events, check_locks, check_officer
from chestkeys.checks import check_sought, check_weights
from chestkeys.companies import allowed_by_locks, forbidden_companies, key_count, least_companies, rule_locks
from chestkeys.companies import swing_count, where_otherwise
from chestkeys.events import hall_behind, those_who_act, unlockings
from chestkeys.influence import are_alike, idle_officers, least_hindering, officer_power
from chestkeys.reading import read_file, read_one_event, read_one_rule
from chestkeys.record import new_record, one_text
from chestkeys.refusals import Fault, HasEvents, NoCall, Refusal
from chestkeys.trades import first_trade
from chestkeys.weights import first_weights, quota_of, tell_rule


def counted(numbers):
    """A list as it's answered: how many, then these."""
    return [len(numbers)] + numbers


def yes_or_no(holds):
    """1 if it holds, else 0."""
    return 1 if holds else 0


def same_or_first_otherwise(record, other):
    """1 if the other allows what the record's rule does; else 0 and the first company for which it's otherwise."""
    otherwise = where_otherwise(record.rule.allowed, other)
    return [0, otherwise[0]] if len(otherwise) > 0 else [1]


def state_behind(record, events):
    """Who's there, dead and acts behind these events, whether these may unlock, and how often it was unlocked."""
    hall = hall_behind(events)
    acting = those_who_act(hall)
    may = yes_or_no(record.rule.allowed[acting])
    return [hall.there, hall.dead, acting, may, len(unlockings(events))]


def record_least(record):
    """The least companies of the record's rule."""
    return least_companies(record.rule.allowed, len(record.names))


def record_forbidden(record):
    """The greatest forbidden companies of the record's rule."""
    return forbidden_companies(record.rule.allowed, len(record.names))


def record_locks(record):
    """The locks of the record's rule."""
    return rule_locks(record.rule.allowed, len(record.names))


def answer_clear(record, given):
    """Call 0."""
    record.become(new_record())
    return [0]


def answer_file(record, given):
    """Call 1."""
    check_bytes(given)
    record.become(read_file(given))
    return [len(record.names), len(record.events)]


def answer_look(record, given):
    """Call 2."""
    check_bytes(given)
    try:
        read_file(given)
    except Fault as fault:
        return [1, fault.place]
    return [0]


def answer_text(record, given):
    """Call 3."""
    return [0] + [ord(sign) for sign in one_text(record)]


def answer_event(record, given):
    """Call 4."""
    check_bytes(given)
    record.events.append(read_one_event(given, record))
    return [len(record.events)]


def answer_undo(record, given):
    """Call 5."""
    kept = given[0]
    check_how_many_events(kept, record)
    record.events = record.events[:kept]
    return [kept]


def answer_told(record, given):
    """Call 6."""
    companies = [len(record_least(record)), len(record_forbidden(record))]
    return [len(record.names), len(record.events)] + companies


def answer_may(record, given):
    """Call 7."""
    company = given[0]
    check_company(company, record)
    return [yes_or_no(record.rule.allowed[company])]


def answer_least(record, given):
    """Call 8."""
    return counted(record_least(record))


def answer_forbidden(record, given):
    """Call 9."""
    return counted(record_forbidden(record))


def answer_locks(record, given):
    """Call 10."""
    return counted(record_locks(record))


def answer_keys(record, given):
    """Call 11."""
    locks = record_locks(record)
    return counted([key_count(locks, officer) for officer in range(len(record.names))])


def answer_scheme(record, given):
    """Call 12."""
    check_locks(given, record)
    return same_or_first_otherwise(record, allowed_by_locks(given, len(record.names)))


def answer_swings(record, given):
    """Call 13."""
    return counted([swing_count(record.rule.allowed, officer) for officer in range(len(record.names))])


def answer_power(record, given):
    """Call 14."""
    officers = len(record.names)
    answered = [officers]
    for officer in range(officers):
        answered.extend(officer_power(record.rule.allowed, officers, officer))
    return answered


def answer_idle(record, given):
    """Call 15."""
    return counted(idle_officers(record.rule.allowed, len(record.names)))


def answer_alike(record, given):
    """Call 16."""
    check_officer(given[0], record)
    check_officer(given[1], record)
    return [yes_or_no(are_alike(record.rule.allowed, given[0], given[1]))]


def answer_hinder(record, given):
    """Call 17."""
    return counted(least_hindering(record.rule.allowed, len(record.names)))


def answer_without(record, given):
    """Call 18."""
    left_out = given[0]
    check_company(left_out, record)
    return counted([company for company in record_least(record) if company & left_out == 0])


def answer_weights(record, given):
    """Call 19."""
    most = given[0]
    check_sought(most)
    least = record_least(record)
    weights = first_weights(least, record_forbidden(record), len(record.names), most)
    if weights is None:
        return [0]
    return [1, quota_of(weights, least)] + counted(weights)


def answer_weigh(record, given):
    """Call 20."""
    check_weights(given, record)
    least = record_least(record)
    if not tell_rule(given, least, record_forbidden(record)):
        return [0]
    return [1, quota_of(given, least)]


def answer_trade(record, given):
    """Call 21."""
    trade = first_trade(record.rule.allowed)
    return [1] + trade if len(trade) > 0 else [0]


def answer_rule(record, given):
    """Call 22."""
    check_bytes(given)
    rule = read_one_rule(given, record.names)
    if len(record.events) > 0:
        raise HasEvents()
    record.rule = rule
    return [0]


def answer_compare(record, given):
    """Call 23."""
    check_bytes(given)
    return same_or_first_otherwise(record, read_one_rule(given, record.names).allowed)


def answer_now(record, given):
    """Call 24."""
    return state_behind(record, record.events)


def answer_behind(record, given):
    """Call 25."""
    number = given[0]
    check_how_many_events(number, record)
    return state_behind(record, record.events[:number])


def answer_opened(record, given):
    """Call 26."""
    return counted(unlockings(record.events))


# By the calls' numbers.
ANSWERERS = (
    answer_clear, answer_file, answer_look, answer_text, answer_event, answer_undo, answer_told,
    answer_may, answer_least, answer_forbidden, answer_locks, answer_keys, answer_scheme, answer_swings,
    answer_power, answer_idle, answer_alike, answer_hinder, answer_without, answer_weights, answer_weigh,
    answer_trade, answer_rule, answer_compare, answer_now, answer_behind, answer_opened,
)


def answer(record, number, given):
    """What's answered to the call of this number; a refusal is its number alone."""
    try:
        if not 0 <= number < len(ANSWERERS):
            raise NoCall()
        return ANSWERERS[number](record, given)
    except Refusal as refusal:
        return [refusal.number]
