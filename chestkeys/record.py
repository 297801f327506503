"""What a chest keeps: its officers' names, its rule and its events."""

from chestkeys.events import event_text
from chestkeys.rules import nobody_rule


class Record:
    """The names in the order told, the rule over them, and the events in their order."""

    def __init__(self, names, rule, events):
        self.names = names
        self.rule = rule
        self.events = events

    def become(self, other):
        """Keep what the other record keeps."""
        self.names = other.names
        self.rule = other.rule
        self.events = other.events


def new_record():
    """No officers, the rule nobody, no events."""
    return Record([], nobody_rule(0), [])


def one_text(record):
    """The one text of a record."""
    lines = [" ".join(["officers"] + record.names), "rule " + record.rule.text]
    for event in record.events:
        lines.append(event_text(record.names, event))
    return "\n".join(lines)
