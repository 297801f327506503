"""Companies of officers, told by their numbers, and what a rule makes of them.

What a rule allows is a list here: for each company, by its number, whether it may.
"""

# Written out, for the seventh number is how many companies six officers make.
POWERS = (1, 2, 4, 8, 16, 32, 64)


def alone(officer):
    """The company of this one officer."""
    return POWERS[officer]


def all_companies(officers):
    """The companies that so many officers make, rising."""
    return list(range(POWERS[officers]))


def has(company, officer):
    """Whether this officer is in the company."""
    return company & POWERS[officer] > 0


def size(company, officers):
    """How many of so many officers are in the company."""
    return len([officer for officer in range(officers) if has(company, officer)])


def is_least(allowed, officers, company):
    """Whether the company may, but not without any one of its own."""
    if not allowed[company]:
        return False
    for officer in range(officers):
        if has(company, officer) and allowed[company - alone(officer)]:
            return False
    return True


def is_greatest_forbidden(allowed, officers, company):
    """Whether the company mayn't, but would with any one more."""
    if allowed[company]:
        return False
    for officer in range(officers):
        if not has(company, officer) and not allowed[company + alone(officer)]:
            return False
    return True


def least_companies(allowed, officers):
    """The least companies, rising."""
    return [company for company in range(len(allowed)) if is_least(allowed, officers, company)]


def forbidden_companies(allowed, officers):
    """The greatest forbidden companies, rising."""
    return [company for company in range(len(allowed)) if is_greatest_forbidden(allowed, officers, company)]


def rule_locks(allowed, officers):
    """The locks of a rule, each told by the company of those who have a key to it."""
    everybody = len(allowed) - 1
    return [everybody - company for company in forbidden_companies(allowed, officers)]


def key_count(locks, officer):
    """How many of the locks this officer has a key to."""
    return len([lock for lock in locks if has(lock, officer)])


def can_unlock(company, locks):
    """Whether the company has a key to each of the locks."""
    return all([company & lock > 0 for lock in locks])


def allowed_by_locks(locks, officers):
    """What a scheme allows: for each company, whether it can unlock."""
    return [can_unlock(company, locks) for company in all_companies(officers)]


def where_otherwise(allowed, other):
    """The companies, rising, that just one of the two allows."""
    return [company for company in range(len(allowed)) if allowed[company] != other[company]]


def swings(allowed, officer, company):
    """Whether this officer isn't in the company, which mayn't, and may with this officer."""
    if has(company, officer) or allowed[company]:
        return False
    return allowed[company + alone(officer)]


def swing_count(allowed, officer):
    """How many companies this officer swings."""
    return len([company for company in range(len(allowed)) if swings(allowed, officer, company)])
