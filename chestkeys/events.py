"""Events, and who is there, is dead, and stands in for whom behind them."""

from chestkeys.companies import alone, has

COME = "come"
GO = "go"
DIE = "die"
STAND = "stand"
UNLOCK = "open"


class Event:
    """A kind of event and its officers: two where one stands in for the other, none where it's unlocked."""

    def __init__(self, kind, officers):
        self.kind = kind
        self.officers = officers


class Hall:
    """The company that's there, that of the dead, and the pairs of who stands in and for whom."""

    def __init__(self):
        self.there = 0
        self.dead = 0
        self.pairs = []


def with_those_stood_for(company, pairs):
    """The company, and those for whom one of it stands in."""
    for pair in pairs:
        if has(company, pair[0]):
            company = company | alone(pair[1])
    return company


def those_who_act(hall):
    """The company of those who act."""
    company = 0
    grown = hall.there
    while grown != company:
        company = grown
        grown = with_those_stood_for(company, hall.pairs)
    return company


def may_stand(hall, officer, other):
    """Whether this officer may stand in for the other one."""
    if officer == other or (officer, other) in hall.pairs:
        return False
    return not has(hall.dead, officer) and not has(hall.dead, other)


def may_be(hall, allowed, event):
    """Whether the event may be, with the hall as it is and such companies allowed."""
    if event.kind == UNLOCK:
        return allowed[those_who_act(hall)]
    officer = event.officers[0]
    if event.kind == STAND:
        return may_stand(hall, officer, event.officers[1])
    if event.kind == GO:
        return has(hall.there, officer)
    if event.kind == COME and has(hall.there, officer):
        return False
    return not has(hall.dead, officer)


def bury(hall, officer):
    """Whoever dies isn't there any more, and stands in for nobody any more."""
    if has(hall.there, officer):
        hall.there = hall.there - alone(officer)
    hall.dead = hall.dead + alone(officer)
    hall.pairs = [pair for pair in hall.pairs if pair[0] != officer]


def happen(hall, event):
    """Change the hall by an event that may be."""
    if event.kind == COME:
        hall.there = hall.there + alone(event.officers[0])
    elif event.kind == GO:
        hall.there = hall.there - alone(event.officers[0])
    elif event.kind == DIE:
        bury(hall, event.officers[0])
    elif event.kind == STAND:
        hall.pairs.append((event.officers[0], event.officers[1]))


def hall_behind(events):
    """The hall as it is behind these events."""
    hall = Hall()
    for event in events:
        happen(hall, event)
    return hall


def unlockings(events):
    """The events by which it was unlocked, by their numbers, rising."""
    return [number for number, event in enumerate(events) if event.kind == UNLOCK]


def event_text(names, event):
    """The event as it's told in a text."""
    kind = event.kind
    if kind == UNLOCK:
        return kind
    told = " for ".join([names[officer] for officer in event.officers])
    return f"{kind} {told}"
