"""Weights that tell a rule, their quota, and trades."""

import itertools
import random
import unittest

from support import (
    FORBIDDEN, GREATEST_NUMBER, LEAST, LEAST_NUMBER, TRADE, falling_sets, file, last, mays_behind, officers, rule,
    rule_of, ruled, run, weigh, weights)

WITH_TRADE = ("a and b or c and d", "( a or b ) and ( c or d )", "a and b or b and c or c and d",
              "a and b or c and d or e and f", "2 of ( a b c ) and 2 of ( d e f )", "2 of ( a b c ) or 2 of ( d e f )")
WITHOUT_TRADE = ("a", "f", "a or b", "a and b", "3 of ( a b c d e f )", "a and ( b or c )", "a or b and c", "anybody",
                 "nobody", "a and 2 of ( b c d e f )", "a and ( b or c and ( d or e and f ) )", "2 of ( b d e )")

# Weights tell it, but none up to 5.
OVER_FIVE = "f or a and b and 2 of ( c d e )"


def weight(company, numbers):
    return sum(number for n, number in enumerate(numbers) if company >> n & 1)


def tell(numbers, least, forbidden):
    return all(weight(one, numbers) > weight(other, numbers) for one in least for other in forbidden)


def first_trade(may, mayn_t):
    """By its words, from one list of companies and the other."""
    for first, second in itertools.combinations_with_replacement(may, 2):
        for third, fourth in itertools.combinations_with_replacement(mayn_t, 2):
            if all((first >> n & 1) + (second >> n & 1) == (third >> n & 1) + (fourth >> n & 1) for n in range(6)):
                return [first, second, third, fourth]
    return None


def made_up_rules(seed, count):
    """The least companies of so many rules of six officers, some of which weights tell."""
    chance = random.Random(seed)
    for k in range(count):
        numbers = [chance.randint(0, 6) for n in range(6)]
        quota = chance.randint(1, sum(numbers) + 1)
        parts = [chance.randrange(1, 64) for n in range(chance.randint(2, 8))]
        may = [c for c in range(64) if (weight(c, numbers) >= quota if k % 2 else any(c & part == part for part in parts))]
        yield [c for c in may if not any(other != c and other & c == other for other in may)]


class Weights(unittest.TestCase):
    def holds(self, names, text, m, quota, numbers):
        self.assertEqual(last(ruled(names, text), weights(m)), [1, quota, len(numbers)] + numbers)

    def none(self, names, text, m):
        self.assertEqual(last(ruled(names, text), weights(m)), [0])

    def test_ordinary_rules(self):
        self.holds("a b", "a", 5, 1, [1, 0])
        self.holds("a b", "b", 5, 1, [0, 1])
        self.holds("a b", "a and b", 5, 2, [1, 1])
        self.holds("a b", "a or b", 5, 1, [1, 1])
        self.holds("a b c", "2 of ( a b c )", 5, 2, [1, 1, 1])
        self.holds("a b c", "a and ( b or c )", 5, 3, [2, 1, 1])
        self.holds("a b c", "a or b and c", 5, 2, [2, 1, 1])
        self.holds("a b c d", "d and ( a or b and c )", 5, 5, [2, 1, 1, 3])
        self.holds(officers(6), "4 of ( a b c d e f )", 5, 4, [1] * 6)
        self.holds(officers(6), "6 of ( a b c d e f )", 5, 6, [1] * 6)

    def test_each_m(self):
        for text, least_m, quota, numbers in (
                ("a", 1, 1, [1, 0, 0]), ("2 of ( a b c )", 1, 2, [1, 1, 1]), ("a and ( b or c )", 2, 3, [2, 1, 1])):
            for m in range(6):
                if m < least_m:
                    self.none("a b c", text, m)
                else:
                    self.holds("a b c", text, m, quota, numbers)

    def test_m_out_of_range(self):
        for chest in ([], [ruled("a b", "a")], [ruled(officers(6), WITH_TRADE[3])], [file("officers\nrule anybody\nopen")]):
            for m in (LEAST_NUMBER, -2, -1, 6, 7, 64, GREATEST_NUMBER):
                self.assertEqual(last(*chest, weights(m)), [-3])
            for m in (0, 5):
                self.assertGreaterEqual(last(*chest, weights(m))[0], 0)

    def test_anybody_and_nobody(self):
        for count in range(7):
            for m in range(6):
                self.holds(officers(count), "anybody", m, 0, [0] * count)
                self.holds(officers(count), "nobody", m, 1, [0] * count)

    def test_no_officers(self):
        self.assertEqual(last(weights(0)), [1, 1, 0])
        self.assertEqual(last(ruled("", "anybody"), weights(5)), [1, 0, 0])

    def test_officer_by_officer_the_lesser(self):
        # Others tell these rules too: 1 2 3 0 and 2 1 3 0, for two.
        self.holds("a b c d", "a and b or c", 5, 2, [1, 1, 2, 0])
        self.holds("a b c d", "( a or b ) and c", 5, 3, [1, 1, 2, 0])
        for least in made_up_rules(3, 40):
            least, forbidden, found = [answer[1:] for answer in run(
                ruled(officers(6), rule_of(least)), LEAST, FORBIDDEN, weights(2))[1:]]
            every = itertools.product(range(3), repeat=6)
            first = next((list(numbers) for numbers in every if tell(numbers, least, forbidden)), [])
            self.assertEqual(found[2:], first)

    def test_all_rules_of_four_officers(self):
        candidates = [list(numbers) for numbers in itertools.product(range(6), repeat=4)]
        for least in falling_sets(4):
            chest = ruled("a b c d", rule_of(least))
            forbidden = last(chest, FORBIDDEN)[1:]
            telling = [numbers for numbers in candidates if tell(numbers, least, forbidden)]
            for m in range(6):
                first = next((numbers for numbers in telling if max(numbers) <= m), None)
                answer = last(chest, weights(m))
                self.assertEqual(answer[0], 0 if first is None else 1)
                self.assertEqual(answer[3:], first or [])

    def test_just_those_companies_may_that_weigh_the_quota_at_least(self):
        rules = [(4, least) for least in falling_sets(4)] + [(6, least) for least in made_up_rules(4, 60)]
        for count, least in rules:
            chest = ruled(officers(count), rule_of(least))
            answer = last(chest, weights(5))
            if answer[0] == 1:
                heavy = [c for c in range(2 ** count) if weight(c, answer[3:]) >= answer[1]]
                self.assertEqual(heavy, mays_behind(chest))
                self.assertEqual(last(chest, weigh(answer[3:])), answer[:2])

    def test_weights_above_five_are_not_sought(self):
        chest = ruled(officers(6), OVER_FIVE)
        self.assertEqual(run(chest, weights(5), TRADE, weigh([2, 2, 1, 1, 1, 6]), weigh([2, 2, 1, 1, 1, 5]))[1:],
                         [[0], [0], [1, 6], [0]])

    def test_by_the_rule_that_was_set(self):
        self.assertEqual(run(ruled("a b", "a"), weights(1), rule("b"), weights(1), weigh([1, 0]), weigh([0, 1]))[1:],
                         [[1, 1, 2, 1, 0], [0], [1, 1, 2, 0, 1], [0], [1, 1]])


class Weigh(unittest.TestCase):
    def test_ordinary_rules(self):
        chest = ruled("a b c", "a and ( b or c )")
        for numbers, answer in (([2, 1, 1], [1, 3]), ([3, 1, 2], [1, 4]), ([3, 2, 2], [1, 5]), ([1, 1, 1], [0]),
                                ([2, 1, 2], [0]), ([2, 1, 0], [0]), ([0, 0, 0], [0]), ([5, 1, 1], [1, 6]), ([1, 2, 2], [0]),
                                ([1000, 999, 999], [1, 1999]), ([1000, 1000, 999], [0]), ([1000, 1, 999], [1, 1001])):
            self.assertEqual(last(chest, weigh(numbers)), answer, numbers)

    def test_the_quota_is_what_the_lightest_least_company_weighs(self):
        self.assertEqual(last(ruled("a b c", "a or b or c"), weigh([7, 3, 9])), [1, 3])
        self.assertEqual(last(ruled("a b c", "2 of ( a b c )"), weigh([5, 4, 3])), [1, 7])
        self.assertEqual(last(ruled("a b c", "2 of ( a b c )"), weigh([8, 4, 3])), [0])
        self.assertEqual(last(ruled("a b c", "2 of ( a b c )"), weigh([7, 4, 3])), [0])
        self.assertEqual(last(ruled("a b c", "2 of ( a b c )"), weigh([6, 4, 3])), [1, 7])

    def test_an_idle_officers_weight(self):
        chest = ruled("a b", "a")
        self.assertEqual(run(chest, weigh([5, 4]), weigh([5, 5]), weigh([1, 0]), weigh([0, 0]))[1:],
                         [[1, 5], [0], [1, 1], [0]])

    def test_anybody_and_nobody(self):
        for count in range(7):
            for number in (0, 1, 7, 1000):
                self.assertEqual(last(ruled(officers(count), "anybody"), weigh([number] * count)), [1, 0])
                self.assertEqual(last(ruled(officers(count), "nobody"), weigh([number] * count)), [1, 1 + number * count])
        self.assertEqual(last(ruled("a b c", "nobody"), weigh([1, 20, 300])), [1, 322])

    def test_no_officers(self):
        self.assertEqual(run(weigh([]), weigh([0]), weigh([1])), [[1, 1], [-4], [-4]])

    def test_too_few_and_too_many(self):
        for count in range(7):
            chest = ruled(officers(count), "nobody")
            for size in (0, 1, 2, 3, 4, 5, 6, 7, 2000):
                self.assertEqual(last(chest, weigh([0] * size)), [1, 1] if size == count else [-4])

    def test_below_0_and_above_1000(self):
        chest = ruled("a b c", "a and b and c")
        for wrong in (LEAST_NUMBER, -1, 1001, GREATEST_NUMBER):
            for numbers in ([wrong, 1, 1], [1, wrong, 1], [1, 1, wrong], [wrong] * 3):
                self.assertEqual(last(chest, weigh(numbers)), [-4])
        self.assertEqual(run(chest, weigh([0, 1, 1]), weigh([1000] * 3), weigh([1000, 1, 1000]))[1:],
                         [[0], [1, 3000], [1, 2001]])

    def test_all_rules_of_three_officers(self):
        for least in falling_sets(3):
            chest = ruled("a b c", rule_of(least))
            may = mays_behind(chest)
            for numbers in itertools.product((0, 1, 2, 3), repeat=3):
                quota = min([weight(c, numbers) for c in may], default=sum(numbers) + 1)
                tells = [c for c in range(8) if weight(c, numbers) >= quota] == may
                self.assertEqual(last(chest, weigh(numbers)), [1, quota] if tells else [0])


class Trades(unittest.TestCase):
    def test_ordinary_rules(self):
        self.assertEqual(last(ruled("a b c d", "a and b or c and d"), TRADE), [1, 3, 12, 5, 10])
        self.assertEqual(last(ruled("a b c d", "a and c or b and d"), TRADE), [1, 5, 10, 3, 12])
        self.assertEqual(last(ruled("a b c d", "a and d or b and c"), TRADE), [1, 6, 9, 3, 12])
        self.assertEqual(last(ruled("a b c d", "( a or b ) and ( c or d )"), TRADE), [1, 5, 10, 3, 12])
        self.assertEqual(last(ruled(officers(6), "c and d or e and f"), TRADE), [1, 12, 48, 20, 40])

    def test_rules_without_one(self):
        for text in WITHOUT_TRADE:
            self.assertEqual(last(ruled(officers(6), text), TRADE), [0], text)

    def test_anybody_and_nobody(self):
        for count in range(7):
            self.assertEqual(last(ruled(officers(count), "anybody"), TRADE), [0])
            self.assertEqual(last(ruled(officers(count), "nobody"), TRADE), [0])
        self.assertEqual(last(TRADE), [0])

    def test_the_first_one_of_all_rules_of_four_officers(self):
        found = 0
        for least in falling_sets(4):
            may = [c for c in range(16) if any(part & c == part for part in least)]
            mayn_t = [c for c in range(16) if c not in may]
            expected = first_trade(may, mayn_t)
            answer = last(ruled("a b c d", rule_of(least)), TRADE)
            self.assertEqual(answer, [0] if expected is None else [1] + expected)
            found += answer[0]
        self.assertEqual(found, 18)

    def test_the_first_one_of_six_officers(self):
        for least in made_up_rules(5, 30):
            may = [c for c in range(64) if any(part & c == part for part in least)]
            mayn_t = [c for c in range(64) if c not in may]
            answer = last(ruled(officers(6), rule_of(least)), TRADE)
            pairs = list(itertools.combinations_with_replacement(mayn_t, 2))
            sums = {}
            for third, fourth in pairs:
                sums.setdefault((third & fourth, third | fourth), [third, fourth])
            expected = [[1, first, second] + sums[first & second, first | second]
                        for first, second in itertools.combinations_with_replacement(may, 2)
                        if (first & second, first | second) in sums]
            self.assertEqual(answer, (expected + [[0]])[0])

    def test_a_company_twice_makes_none(self):
        # Whoever stands twice in a company and itself stands in both of the others, which are then the same.
        self.assertEqual(last(ruled("a b", "a or b"), TRADE), [0])
        for least in falling_sets(4):
            answer = last(ruled("a b c d", rule_of(least)), TRADE)
            if answer[0] == 1:
                self.assertLess(answer[1], answer[2])
                self.assertLess(answer[3], answer[4])

    def test_it_is_a_trade(self):
        for text in WITH_TRADE:
            chest = ruled(officers(6), text)
            answer = last(chest, TRADE)
            may = mays_behind(chest)
            self.assertEqual([answer[0]] + [company in may for company in answer[1:]], [1, True, True, False, False])
            for n in range(6):
                self.assertEqual(*[sum(company >> n & 1 for company in two) for two in (answer[1:3], answer[3:])])

    def test_where_there_is_one_no_weights_tell_the_rule(self):
        for text in WITH_TRADE:
            self.assertEqual(run(ruled(officers(6), text), TRADE, weights(5))[2], [0])
        for count, rules in ((4, falling_sets(4)), (6, made_up_rules(6, 60))):
            for least in rules:
                trade, found = run(ruled(officers(count), rule_of(least)), TRADE, weights(5))[1:]
                self.assertFalse(trade[0] == 1 and found[0] == 1)
                if count == 4:
                    self.assertEqual(trade[0] + found[0], 1)

    def test_where_there_is_one_other_weights_do_not_tell_the_rule_either(self):
        chance = random.Random(7)
        for text in WITH_TRADE:
            tries = [[chance.randint(0, 1000) for n in range(6)] for k in range(99)]
            self.assertEqual(run(ruled(officers(6), text), *[weigh(numbers) for numbers in tries])[1:], [[0]] * 99)

    def test_by_the_rule_that_was_set(self):
        self.assertEqual(run(ruled("a b c d", "a"), TRADE, rule("a and b or c and d"), TRADE, rule("b"), TRADE)[1:],
                         [[0], [0], [1, 3, 12, 5, 10], [0], [0]])


class SixOfThem(unittest.TestCase):
    def test_six_calls_of_weights_with_six_officers(self):
        for text in WITH_TRADE + (OVER_FIVE,):
            self.assertEqual(run(ruled(officers(6), text), *[weights(5)] * 6)[1:], [[0]] * 6)
        self.assertEqual(run(ruled(officers(6), "5 of ( a b c d e f )"), *[weights(5)] * 6)[1:],
                         [[1, 5, 6, 1, 1, 1, 1, 1, 1]] * 6)

    def test_six_calls_of_weights_and_trade_with_six_officers(self):
        chest = ruled(officers(6), "a and b or c and d or e and f")
        self.assertEqual(run(chest, weights(5), TRADE, weights(4), TRADE, weights(3), TRADE)[1:],
                         [[0], [1, 3, 12, 5, 10]] * 3)
        self.assertEqual(run(ruled(officers(6), "3 of ( a b c d e f )"), *[TRADE] * 6)[1:], [[0]] * 6)


if __name__ == "__main__":
    unittest.main()
