"""Power, idle officers, officers alike, companies that hinder, and the least companies without some officers."""

import fractions
import unittest

from support import (
    GREATEST_NUMBER, HINDER, IDLE, LEAST_NUMBER, POWER, SWINGS, alike, falling_sets, file, last, mays_behind, officers,
    rule, rule_of, ruled, run, undo, without)

SIX_RULES = ("a", "f", "a and b or c and d or e and f", "3 of ( a b c d e f )", "2 of ( a b c ) and 2 of ( d e f )",
             "a and 2 of ( b c d e f ) or f", "6 of ( a b c d e f )", "1 of ( a b c d e f )", "b and ( c or d and e )")


def fractions_of(answer):
    return [fractions.Fraction(answer[k], answer[k + 1]) for k in range(1, len(answer), 2)]


class Power(unittest.TestCase):
    def holds(self, names, text, *powers):
        numbers = [int(number) for power in powers for number in power.split("/")]
        self.assertEqual(last(ruled(names, text), POWER), [len(powers)] + numbers)

    def test_ordinary_rules(self):
        self.holds("a", "a", "1/1")
        self.holds("a b", "a", "1/1", "0/1")
        self.holds("a b", "b", "0/1", "1/1")
        self.holds("a b", "a and b", "1/2", "1/2")
        self.holds("a b", "a or b", "1/2", "1/2")
        self.holds("a b c", "2 of ( a b c )", "1/3", "1/3", "1/3")
        self.holds("a b c", "a and ( b or c )", "2/3", "1/6", "1/6")
        self.holds("a b c", "a or b and c", "2/3", "1/6", "1/6")
        self.holds("a b c d", "d and ( a or b and c )", "1/4", "1/12", "1/12", "7/12")
        self.holds("a b c d", "a and b or c and d", "1/4", "1/4", "1/4", "1/4")

    def test_each_order_counts_and_not_each_company(self):
        chest = ruled("a b c d", "a and ( b or c or d )")
        self.assertEqual(run(chest, SWINGS, POWER)[1:], [[4, 7, 1, 1, 1], [4, 3, 4, 1, 12, 1, 12, 1, 12]])

    def test_six_officers(self):
        self.holds(officers(6), "3 of ( a b c d e f )", *["1/6"] * 6)
        self.holds(officers(6), "e", "0/1", "0/1", "0/1", "0/1", "1/1", "0/1")
        self.holds(officers(6), "6 of ( a b c d e f )", *["1/6"] * 6)
        self.holds(officers(6), "a and 1 of ( b c d e f )", "5/6", *["1/30"] * 5)
        self.holds(officers(6), "a or b and c and d and e and f", "5/6", *["1/30"] * 5)
        self.holds(officers(6), "a and 2 of ( b c d e f )", "2/3", *["1/15"] * 5)
        self.holds(officers(6), "f and ( a or b and c )", "1/4", "1/12", "1/12", "0/1", "0/1", "7/12")

    def test_anybody_and_nobody(self):
        for count in range(7):
            self.holds(officers(count), "anybody", *["0/1"] * count)
            self.holds(officers(count), "nobody", *["0/1"] * count)

    def test_no_officers(self):
        self.assertEqual(last(POWER), [0])
        self.assertEqual(last(ruled("", "anybody"), POWER), [0])

    def test_together_one_and_in_lowest_terms(self):
        for count in range(5):
            for least in falling_sets(count):
                answer = last(ruled(officers(count), rule_of(least)), POWER)
                powers = fractions_of(answer)
                self.assertEqual(sum(powers), 0 if least in ((), (0,)) else 1)
                numbers = [number for power in powers for number in (power.numerator, power.denominator)]
                self.assertEqual(answer, [count] + numbers)
        for text in SIX_RULES:
            self.assertEqual(sum(fractions_of(last(ruled(officers(6), text), POWER))), 1)

    def test_by_the_rule_that_was_set(self):
        self.assertEqual(run(ruled("a b", "a"), POWER, rule("b"), POWER)[1:], [[2, 1, 1, 0, 1], [0], [2, 0, 1, 1, 1]])


class Idle(unittest.TestCase):
    def holds(self, names, text, idle):
        self.assertEqual(last(ruled(names, text), IDLE), [len(idle)] + idle)

    def test_ordinary_rules(self):
        self.holds("a b", "a", [1])
        self.holds("a b", "b", [0])
        self.holds("a b", "a and b", [])
        self.holds("a b c", "2 of ( a c )", [1])
        self.holds(officers(6), "c and d", [0, 1, 4, 5])
        self.holds(officers(6), "3 of ( a b c d e f )", [])

    def test_officers_that_are_told_and_do_not_matter(self):
        self.holds("a b", "a or a and b", [1])
        self.holds("a b", "a and ( a or b )", [1])
        self.holds("a b c", "a or b and nobody or c", [1])
        self.holds("a b c", "a and ( b or anybody ) and c", [1])

    def test_anybody_and_nobody(self):
        for count in range(7):
            self.holds(officers(count), "anybody", list(range(count)))
            self.holds(officers(count), "nobody", list(range(count)))

    def test_just_those_without_swings_and_without_power(self):
        for least in falling_sets(4):
            idle, swings, power = run(ruled(officers(4), rule_of(least)), IDLE, SWINGS, POWER)[1:]
            self.assertEqual(idle[1:], [n for n in range(4) if swings[1 + n] == 0])
            self.assertEqual(idle[1:], [n for n in range(4) if power[1 + 2 * n] == 0])
            self.assertEqual(idle[1:], [n for n in range(4) if not any(company >> n & 1 for company in least)])


class Alike(unittest.TestCase):
    def pairs(self, names, text):
        """The pairs of officers that are alike; each is alike to itself, and the same both ways round."""
        count = len(names.split())
        found = []
        for a in range(count):
            answers = run(ruled(names, text), *[alike(a, b) for b in range(count)], *[alike(b, a) for b in range(count)])
            self.assertEqual(answers[1 + a], [1])
            self.assertEqual(answers[1:1 + count], answers[1 + count:])
            found += [(a, b) for b in range(a + 1, count) if answers[1 + b] == [1]]
            self.assertLessEqual({number for answer in answers[1:] for number in answer}, {0, 1})
        return found

    def test_ordinary_rules(self):
        self.assertEqual(self.pairs("a b", "a"), [])
        self.assertEqual(self.pairs("a b", "a and b"), [(0, 1)])
        self.assertEqual(self.pairs("a b", "a or b"), [(0, 1)])
        self.assertEqual(self.pairs("a b c", "2 of ( a b c )"), [(0, 1), (0, 2), (1, 2)])
        self.assertEqual(self.pairs("a b c", "a and ( b or c )"), [(1, 2)])
        self.assertEqual(self.pairs("a b c", "c or a and b"), [(0, 1)])
        self.assertEqual(self.pairs("a b c", "b"), [(0, 2)])

    def test_as_powerful_and_yet_not_alike(self):
        self.assertEqual(self.pairs("a b c d", "a and b or c and d"), [(0, 1), (2, 3)])
        self.assertEqual(self.pairs("a b c d", "a and b or b and c or c and d"), [])
        self.assertEqual(self.pairs(officers(6), "2 of ( a c e ) or 2 of ( b d f )"),
                         [(0, 2), (0, 4), (1, 3), (1, 5), (2, 4), (3, 5)])

    def test_anybody_and_nobody(self):
        every = [(a, b) for a in range(6) for b in range(a + 1, 6)]
        self.assertEqual(self.pairs(officers(6), "anybody"), every)
        self.assertEqual(self.pairs(officers(6), "nobody"), every)
        self.assertEqual(self.pairs(officers(6), "4 of ( a b c d e f )"), every)

    def test_numbers_out_of_range_and_officers_that_are_not_there(self):
        chest = ruled("a b", "a")
        for wrong in (LEAST_NUMBER, -1, 6, 7, GREATEST_NUMBER):
            for other in (0, 1, 5, -1, 6):
                self.assertEqual(last(chest, alike(wrong, other)), [-3])
            self.assertEqual(last(chest, alike(0, wrong)), [-3])
        for wrong in (2, 3, 4, 5):
            self.assertEqual(last(chest, alike(wrong, 0)), [-5])
            self.assertEqual(last(chest, alike(1, wrong)), [-5])
            self.assertEqual(last(chest, alike(wrong, wrong)), [-5])

    def test_the_first_number_is_looked_at_whole_ahead_of_the_second(self):
        chest = ruled("a b", "a")
        self.assertEqual(last(chest, alike(2, 6)), [-5])
        self.assertEqual(last(chest, alike(5, -1)), [-5])
        self.assertEqual(last(chest, alike(6, 2)), [-3])
        self.assertEqual(last(chest, alike(1, 6)), [-3])
        self.assertEqual(last(chest, alike(1, 2)), [-5])

    def test_which_officers_there_are(self):
        for count in range(7):
            chest = ruled(officers(count), "anybody")
            for officer in range(7):
                answer = [1] if officer < count else [-5] if officer < 6 else [-3]
                self.assertEqual(last(chest, alike(officer, officer)), answer)
        self.assertEqual(run(alike(0, 0), alike(6, 0)), [[-5], [-3]])


class Hinder(unittest.TestCase):
    def holds(self, names, text, companies):
        self.assertEqual(last(ruled(names, text), HINDER), [len(companies)] + companies)

    def test_ordinary_rules(self):
        self.holds("a b", "a", [1])
        self.holds("a b", "a and b", [1, 2])
        self.holds("a b", "a or b", [3])
        self.holds("a b c", "2 of ( a b c )", [3, 5, 6])
        self.holds("a b c", "3 of ( a b c )", [1, 2, 4])
        self.holds("a b c", "a and ( b or c )", [1, 6])
        self.holds("a b c d", "d and ( a or b and c )", [3, 5, 8])
        self.holds("a b c d", "a and b or c and d", [5, 6, 9, 10])

    def test_anybody_and_nobody(self):
        for count in range(7):
            self.holds(officers(count), "anybody", [])
            self.holds(officers(count), "nobody", [0])

    def test_by_its_words(self):
        for count, rules in ((3, falling_sets(3)), (4, falling_sets(4))):
            everybody = 2 ** count - 1
            for least in rules:
                chest = ruled(officers(count), rule_of(least))
                may = mays_behind(chest)
                hinders = [c for c in range(2 ** count) if everybody - c not in may]
                expected = [c for c in hinders if not any(other != c and other & c == other for other in hinders)]
                self.assertEqual(last(chest, HINDER), [len(expected)] + expected)

    def test_six_officers(self):
        self.holds(officers(6), "5 of ( a b c d e f )", [c for c in range(64) if bin(c).count("1") == 2])
        self.holds(officers(6), "e", [16])


class Without(unittest.TestCase):
    def test_ordinary_companies(self):
        chest = ruled("a b c d", "a and b or c or b and d")
        for company, answer in ((0, [3, 3, 4, 10]), (1, [2, 4, 10]), (2, [1, 4]), (3, [1, 4]), (4, [2, 3, 10]),
                                (5, [1, 10]), (6, [0]), (8, [2, 3, 4]), (9, [1, 4]), (12, [1, 3]), (15, [0])):
            self.assertEqual(last(chest, without(company)), answer, company)

    def test_nobodys_company_leaves_all_and_everybodys_none(self):
        for count in range(1, 5):
            for least in falling_sets(count):
                if least in ((), (0,)):
                    continue
                chest = ruled(officers(count), rule_of(least))
                self.assertEqual(run(chest, without(0), without(2 ** count - 1))[1:],
                                 [[len(least)] + sorted(least), [0]])

    def test_anybody_and_nobody(self):
        for count in range(7):
            for company in (0, 2 ** count - 1):
                self.assertEqual(last(ruled(officers(count), "anybody"), without(company)), [1, 0])
                self.assertEqual(last(ruled(officers(count), "nobody"), without(company)), [0])

    def test_only_companies_that_are_least_of_the_rule(self):
        self.assertEqual(last(ruled("a b c", "a or a and b"), without(1)), [0])
        self.assertEqual(last(ruled("a b c", "a and b or c"), without(1)), [1, 4])

    def test_a_company_out_of_range_then_one_that_is_not_there(self):
        for count in range(7):
            chest = ruled(officers(count), "nobody")
            for company in (LEAST_NUMBER, -1, 64, 65, GREATEST_NUMBER):
                self.assertEqual(last(chest, without(company)), [-3])
            self.assertEqual(last(chest, without(2 ** count - 1)), [0])
            for company in (2 ** count, 63):
                self.assertEqual(last(chest, without(company)), [0] if company < 2 ** count else [-5] if company < 64 else [-3])

    def test_whoever_is_dead_is_not_left_out(self):
        chest = file("officers a b\nrule a or b\ndie a")
        self.assertEqual(run(chest, without(0), without(1), undo(0), without(0))[1:], [[2, 1, 2], [1, 2], [0], [2, 1, 2]])


if __name__ == "__main__":
    unittest.main()
