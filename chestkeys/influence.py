"""How much officers matter: their power, who is idle, who is alike, and which companies hinder."""

from chestkeys.companies import alone, has, least_companies, size, swing_count, swings

# Written out: in how many orders so many officers can come, up to six.
ORDERS = (1, 1, 2, 6, 24, 120, 720)


def swung_orders(allowed, officers, officer):
    """In how many orders of all officers those who came become a company that may just as this officer comes."""
    orders = 0
    for company in range(len(allowed)):
        if swings(allowed, officer, company):
            ahead = size(company, officers)
            orders = orders + ORDERS[ahead] * ORDERS[officers - 1 - ahead]
    return orders


def greatest_divisor(number, other):
    """The greatest number that divides both; the other one isn't 0."""
    while number > 0:
        rest = other % number
        other = number
        number = rest
    return other


def officer_power(allowed, officers, officer):
    """The officer's power in lowest terms, as two numbers."""
    part = swung_orders(allowed, officers, officer)
    divisor = greatest_divisor(part, ORDERS[officers])
    return [part // divisor, ORDERS[officers] // divisor]


def idle_officers(allowed, officers):
    """The officers that swing no company, rising."""
    return [officer for officer in range(officers) if swing_count(allowed, officer) == 0]


def exchanged(company, officer, other):
    """The company with the one officer for the other, where it has just one of them."""
    if has(company, officer) == has(company, other):
        return company
    return company ^ alone(officer) ^ alone(other)


def are_alike(allowed, officer, other):
    """Whether each company may just if it may with these two exchanged."""
    for company in range(len(allowed)):
        if allowed[company] != allowed[exchanged(company, officer, other)]:
            return False
    return True


def least_hindering(allowed, officers):
    """The companies that hinder, but not without any one of theirs, rising."""
    everybody = len(allowed) - 1
    hinders = [not allowed[everybody - company] for company in range(len(allowed))]
    # Who hinders, hinders with more officers, too: so these are the least ones of a rule.
    return least_companies(hinders, officers)
