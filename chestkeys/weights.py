"""Weights of the officers: whether they tell a rule, their quota, and the first that tell it."""

from chestkeys.companies import has, size


def company_weight(company, weights):
    """What the company weighs."""
    return sum([weight for officer, weight in enumerate(weights) if has(company, officer)])


def all_weigh_more(ones, others):
    """Whether each of the ones is more than each of the others; none of them is below 0."""
    heaviest = max(others, default=-1)
    return all([one > heaviest for one in ones])


def tell_rule(weights, least, forbidden):
    """Whether the weights tell the rule with these least and greatest forbidden companies."""
    return all_weigh_more([company_weight(company, weights) for company in least],
                          [company_weight(company, weights) for company in forbidden])


def quota_of(weights, least):
    """The quota of weights that tell the rule with these least companies."""
    return min([company_weight(company, weights) for company in least], default=sum(weights) + 1)


def moved(companies, numbers, officer, step):
    """The companies' numbers, those of this officer's companies moved by the step."""
    return [number + step if has(company, officer) else number for company, number in zip(companies, numbers)]


class Search:
    """Looks through the weights from 0 to the most for those that tell a rule, officer by officer the lesser first."""

    def __init__(self, least, forbidden, officers, most):
        self.least = least
        self.forbidden = forbidden
        self.officers = officers
        self.most = most

    def first_behind(self, begun, tops, bottoms):
        """The first weights that begin with the begun ones and tell the rule, or None.

        With such a beginning the least companies weigh the tops at most, the forbidden ones the bottoms at
        least. So nothing behind it needs a look where these are too close; and where all weights are begun,
        both are just what the companies weigh.
        """
        if not all_weigh_more(tops, bottoms):
            return None
        officer = len(begun)
        if officer == self.officers:
            return begun
        for weight in range(self.most + 1):
            lower_tops = moved(self.least, tops, officer, weight - self.most)
            higher_bottoms = moved(self.forbidden, bottoms, officer, weight)
            found = self.first_behind(begun + [weight], lower_tops, higher_bottoms)
            if found is not None:
                return found
        return None


def first_weights(least, forbidden, officers, most):
    """The first weights from 0 to the most that tell the rule with these companies, or None."""
    search = Search(least, forbidden, officers, most)
    tops = [most * size(company, officers) for company in least]
    return search.first_behind([], tops, [0 for company in forbidden])
