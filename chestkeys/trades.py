"""Trades: two companies that may and two that mayn't, in which each officer stands equally often."""


def pairs_of(companies):
    """All pairs of a company and one that's no less, in their order."""
    pairs = []
    for place, first in enumerate(companies):
        for second in companies[place:]:
            pairs.append((first, second))
    return pairs


def together(pair):
    """Who stands in both companies of the pair, and who in just one."""
    return (pair[0] & pair[1], pair[0] ^ pair[1])


def first_trade(allowed):
    """The four companies of the first trade, or none."""
    first_forbidden = {}
    for pair in pairs_of([company for company in range(len(allowed)) if not allowed[company]]):
        first_forbidden.setdefault(together(pair), pair)
    for pair in pairs_of([company for company in range(len(allowed)) if allowed[company]]):
        if together(pair) in first_forbidden:
            return list(pair) + list(first_forbidden[together(pair)])
    return []
