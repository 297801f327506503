"""Why a call is refused: an error for each refusal, which knows the number that's answered."""


class Refusal(Exception):
    """A call is refused with a number."""

    def __init__(self, number):
        Exception.__init__(self, number)
        self.number = number


class NoCall(Refusal):
    """There's no call of that number."""

    def __init__(self):
        Refusal.__init__(self, -100)


class WrongBytes(Refusal):
    """A text has a number that's no byte, or too many numbers."""

    def __init__(self):
        Refusal.__init__(self, -1)


class OutOfRange(Refusal):
    """A whole number isn't in the range that's told."""

    def __init__(self):
        Refusal.__init__(self, -3)


class WrongList(Refusal):
    """A list isn't such as the call asks for."""

    def __init__(self):
        Refusal.__init__(self, -4)


class NotThere(Refusal):
    """There's no such company or officer, or there aren't so many events."""

    def __init__(self):
        Refusal.__init__(self, -5)


class HasEvents(Refusal):
    """There are events, so the rule must stay."""

    def __init__(self):
        Refusal.__init__(self, -6)


class Fault(Refusal):
    """A word of a text can't stand where it stands, or is missing at the text's end."""

    def __init__(self, place):
        Refusal.__init__(self, -1000 - place)
        self.place = place
