"""Rules: which companies may, and how that's told in the one text.

Of a rule just these two are kept, and no tree of its parts: as many parts may be joined as a text has room
for, and both can be made part by part, with no part gone into again.
"""

from chestkeys.companies import all_companies, has

SINGLE = "single"
AND = "and"
OR = "or"


class Rule:
    """What a rule allows company by company, its text, and by which word it's joined, if it is."""

    def __init__(self, joined_by, text, allowed):
        self.joined_by = joined_by
        self.text = text
        self.allowed = allowed


def anybody_rule(officers):
    """All companies may."""
    return Rule(SINGLE, "anybody", [True for company in all_companies(officers)])


def nobody_rule(officers):
    """No company may."""
    return Rule(SINGLE, "nobody", [False for company in all_companies(officers)])


def officer_rule(names, officer):
    """The companies may in which this officer is."""
    companies = all_companies(len(names))
    return Rule(SINGLE, names[officer], [has(company, officer) for company in companies])


def so_many_rule(names, number, chosen):
    """The companies may in which there are so many of the chosen officers."""
    companies = all_companies(len(names))
    listed = " ".join([names[officer] for officer in chosen])
    allowed = [how_many_in(company, chosen) >= number for company in companies]
    return Rule(SINGLE, f"{number} of ( {listed} )", allowed)


def how_many_in(company, chosen):
    """How many of the chosen officers are in the company."""
    return len([officer for officer in chosen if has(company, officer)])


def and_rule(left, right):
    """The companies may that both rules let."""
    left_text = in_brackets(left.text) if left.joined_by == OR else left.text
    right_text = right.text if right.joined_by == SINGLE else in_brackets(right.text)
    allowed = [one and other for one, other in zip(left.allowed, right.allowed)]
    return Rule(AND, f"{left_text} and {right_text}", allowed)


def or_rule(left, right):
    """The companies may that one of the rules lets."""
    left_text = left.text
    right_text = in_brackets(right.text) if right.joined_by == OR else right.text
    allowed = [one or other for one, other in zip(left.allowed, right.allowed)]
    return Rule(OR, f"{left_text} or {right_text}", allowed)


def in_brackets(text):
    """The text with brackets around it."""
    return f"( {text} )"
