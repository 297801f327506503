"""Reads a file's text, a rule and an event; the first word that can't stand makes a fault."""

from chestkeys.events import COME, DIE, GO, STAND, UNLOCK, Event, Hall, hall_behind, happen, may_be
from chestkeys.record import Record
from chestkeys.rules import and_rule, anybody_rule, nobody_rule, officer_rule, or_rule, so_many_rule
from chestkeys.words import LETTERS, LINE_END_WORD, Reader

MOST_OFFICERS = 6
MOST_LETTERS = 12
MOST_BRACKETS = 8
MOST_EVENTS = 60
NO_NAMES = ("and", "or", "of", "anybody", "nobody")
NUMBERS = ("1", "2", "3", "4", "5", "6")


def is_name(word):
    """Whether the word can be an officer's name."""
    if word in NO_NAMES or not 1 <= len(word) <= MOST_LETTERS:
        return False
    return all([sign in LETTERS for sign in word])


def can_be_told(word, names):
    """Whether the word can stand behind these names as one more."""
    return len(names) < MOST_OFFICERS and is_name(word) and word not in names


def read_names(reader):
    """The names that stand next."""
    names = []
    while can_be_told(reader.shown(), names):
        names.append(reader.shown())
        reader.go_on()
    return names


def shown_officer(reader, names):
    """The officer whose name is next; the reader stays ahead of it."""
    if reader.shown() not in names:
        reader.refuse()
    return names.index(reader.shown())


def read_officer(reader, names):
    """The officer whose name is next."""
    officer = shown_officer(reader, names)
    reader.go_on()
    return officer


def read_chosen(reader, names, number):
    """The officers in the bracket behind "of", and the bracket's end."""
    chosen = [read_officer(reader, names)]
    while reader.shown() != ")" or len(chosen) < number:
        officer = shown_officer(reader, names)
        if officer <= chosen[-1]:
            reader.refuse()
        chosen.append(officer)
        reader.go_on()
    reader.go_on()
    return chosen


def read_so_many(reader, names):
    """A rule of so many of some officers."""
    number = int(reader.shown())
    reader.go_on()
    reader.expect("of")
    reader.expect("(")
    return so_many_rule(names, number, read_chosen(reader, names, number))


def read_bracket(reader, names, brackets):
    """A rule in brackets, with so many brackets around it already."""
    if brackets == MOST_BRACKETS:
        reader.refuse()
    reader.go_on()
    rule = read_rule(reader, names, brackets + 1)
    reader.expect(")")
    return rule


def read_one(reader, names, brackets):
    """A rule that isn't joined, or is in brackets."""
    word = reader.shown()
    if word == "(":
        return read_bracket(reader, names, brackets)
    if word in NUMBERS:
        return read_so_many(reader, names)
    if word == "anybody":
        reader.go_on()
        return anybody_rule(len(names))
    if word == "nobody":
        reader.go_on()
        return nobody_rule(len(names))
    return officer_rule(names, read_officer(reader, names))


def read_part(reader, names, brackets):
    """A rule that's joined by and, if it's joined."""
    rule = read_one(reader, names, brackets)
    while reader.shown() == "and":
        reader.go_on()
        rule = and_rule(rule, read_one(reader, names, brackets))
    return rule


def read_rule(reader, names, brackets):
    """A rule, with so many brackets open around it."""
    rule = read_part(reader, names, brackets)
    while reader.shown() == "or":
        reader.go_on()
        rule = or_rule(rule, read_part(reader, names, brackets))
    return rule


def read_event_officers(reader, names, kind):
    """The officers of an event of this kind; the reader stays ahead of its last word."""
    if kind == UNLOCK:
        return []
    reader.go_on()
    if kind != STAND:
        return [shown_officer(reader, names)]
    officer = read_officer(reader, names)
    reader.expect("for")
    return [officer, shown_officer(reader, names)]


def read_event(reader, record, hall):
    """An event behind those of the record, behind which the hall is as told."""
    kind = reader.shown()
    if len(record.events) == MOST_EVENTS or kind not in (COME, GO, DIE, STAND, UNLOCK):
        reader.refuse()
    event = Event(kind, read_event_officers(reader, record.names, kind))
    # The last word is where an event can't stand that may not be.
    if not may_be(hall, record.rule.allowed, event):
        reader.refuse()
    reader.go_on()
    return event


def read_file(text):
    """The record that a file's text tells."""
    reader = Reader(text)
    reader.expect("officers")
    names = read_names(reader)
    reader.expect(LINE_END_WORD)
    reader.expect("rule")
    record = Record(names, read_rule(reader, names, 0), [])
    hall = Hall()
    while not reader.at_end():
        reader.expect(LINE_END_WORD)
        event = read_event(reader, record, hall)
        happen(hall, event)
        record.events.append(event)
    return record


def read_one_rule(text, names):
    """The rule that a text tells over the officers of these names."""
    reader = Reader(text)
    rule = read_rule(reader, names, 0)
    reader.finish()
    return rule


def read_one_event(text, record):
    """The event that a text tells, behind those of the record."""
    reader = Reader(text)
    event = read_event(reader, record, hall_behind(record.events))
    reader.finish()
    return event
