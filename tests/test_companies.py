"""Which companies may, the least and the greatest forbidden ones, locks and keys, schemes, swings."""

import itertools
import unittest

from support import (
    FORBIDDEN, KEYS, LEAST, LOCKS, SWINGS, TOLD, falling_sets, last, mays_behind, officers, rule, rule_of, ruled, run,
    scheme)


def mays(names, text):
    return mays_behind(ruled(names, text))


class May(unittest.TestCase):
    def test_an_officer(self):
        self.assertEqual(mays("a b", "a"), [1, 3])
        self.assertEqual(mays("a b", "b"), [2, 3])
        self.assertEqual(mays("a b c", "c"), [4, 5, 6, 7])
        self.assertEqual(mays(officers(6), "f"), list(range(32, 64)))

    def test_names_are_told_in_their_order(self):
        self.assertEqual(mays("zoe adam", "zoe"), [1, 3])

    def test_anybody_and_nobody(self):
        for count in range(7):
            self.assertEqual(mays(officers(count), "anybody"), list(range(2 ** count)))
            self.assertEqual(mays(officers(count), "nobody"), [])

    def test_and_and_or(self):
        self.assertEqual(mays("a b", "a and b"), [3])
        self.assertEqual(mays("a b", "a or b"), [1, 2, 3])
        self.assertEqual(mays("a b", "a and nobody"), [])
        self.assertEqual(mays("a b", "a or nobody"), [1, 3])
        self.assertEqual(mays("a b", "a and anybody"), [1, 3])
        self.assertEqual(mays("a b", "a or anybody"), [0, 1, 2, 3])

    def test_and_binds_before_or(self):
        self.assertEqual(mays("a b c", "a or b and c"), [1, 3, 5, 6, 7])
        self.assertEqual(mays("a b c", "a and b or c"), [3, 4, 5, 6, 7])
        self.assertEqual(mays("a b c", "( a or b ) and c"), [5, 6, 7])
        self.assertEqual(mays("a b c", "a and ( b or c )"), [3, 5, 7])

    def test_so_many(self):
        self.assertEqual(mays("a b c", "1 of ( a b c )"), [1, 2, 3, 4, 5, 6, 7])
        self.assertEqual(mays("a b c", "2 of ( a b c )"), [3, 5, 6, 7])
        self.assertEqual(mays("a b c", "3 of ( a b c )"), [7])
        self.assertEqual(mays("a b c", "2 of ( a c )"), [5, 7])
        self.assertEqual(mays("a b c", "1 of ( b )"), [2, 3, 6, 7])
        for number in range(1, 7):
            self.assertEqual(mays(officers(6), f"{number} of ( a b c d e f )"),
                             [company for company in range(64) if bin(company).count("1") >= number])

    def test_who_may_may_with_more(self):
        for least in falling_sets(3):
            found = mays("a b c", rule_of(least))
            self.assertEqual(found, [c for c in range(8) if any(part & c == part for part in least)])


class LeastAndForbidden(unittest.TestCase):
    def holds(self, names, rule, least, forbidden):
        count = len(names.split())
        self.assertEqual(run(ruled(names, rule), LEAST, FORBIDDEN, TOLD)[1:], [
            [len(least)] + least, [len(forbidden)] + forbidden, [count, 0, len(least), len(forbidden)]])

    def test_ordinary_rules(self):
        self.holds("a b", "a", [1], [2])
        self.holds("a b", "a and b", [3], [1, 2])
        self.holds("a b", "a or b", [1, 2], [0])
        self.holds("a b c", "2 of ( a b c )", [3, 5, 6], [1, 2, 4])
        self.holds("a b c", "a and b or c", [3, 4], [1, 2])
        self.holds("a b c", "a and ( b or c )", [3, 5], [1, 6])
        self.holds("a b c d", "a and b or c and d", [3, 12], [5, 6, 9, 10])
        self.holds("a b c d", "d and ( a or b and c )", [9, 14], [7, 10, 12])

    def test_rising_in_whatever_order_told(self):
        self.holds("a b c", "c or b and a", [3, 4], [1, 2])
        self.holds("a b c", "c and b or c and a or b and a", [3, 5, 6], [1, 2, 4])

    def test_what_is_told_twice_or_needlessly(self):
        self.holds("a b", "a or a and b", [1], [2])
        self.holds("a b", "a and ( a or b )", [1], [2])
        self.holds("a b", "a or nobody and b", [1], [2])

    def test_anybody_and_nobody(self):
        for count in range(7):
            self.holds(officers(count), "anybody", [0], [])
            self.holds(officers(count), "nobody", [], [2 ** count - 1])

    def test_six_officers(self):
        three = [c for c in range(64) if bin(c).count("1") == 3]
        two = [c for c in range(64) if bin(c).count("1") == 2]
        self.holds(officers(6), "3 of ( a b c d e f )", three, two)

    def test_all_rules_of_four_officers(self):
        found = falling_sets(4)
        self.assertEqual(len(found), 168)
        for least in found:
            forbidden = [c for c in range(16) if not any(part & c == part for part in least)]
            greatest = [c for c in forbidden if not any(c != other and c & other == c for other in forbidden)]
            self.holds("a b c d", rule_of(least), sorted(least), greatest)


class LocksAndKeys(unittest.TestCase):
    def holds(self, names, rule, locks, keys):
        self.assertEqual(run(ruled(names, rule), LOCKS, KEYS)[1:], [[len(locks)] + locks, [len(keys)] + keys])

    def test_ordinary_rules(self):
        self.holds("a b", "a", [1], [1, 0])
        self.holds("a b", "a and b", [2, 1], [1, 1])
        self.holds("a b", "a or b", [3], [1, 1])
        self.holds("a b c", "2 of ( a b c )", [6, 5, 3], [2, 2, 2])
        self.holds("a b c", "a and ( b or c )", [6, 1], [1, 1, 1])
        self.holds("a b c d", "d and ( a or b and c )", [8, 5, 3], [2, 1, 1, 1])
        self.holds("a b c d", "a and b or c and d", [10, 9, 6, 5], [2, 2, 2, 2])

    def test_anybody_has_no_locks_and_nobody_one_without_keys(self):
        for count in range(7):
            self.holds(officers(count), "anybody", [], [0] * count)
            self.holds(officers(count), "nobody", [0], [0] * count)

    def test_most_locks(self):
        answers = run(ruled(officers(6), "4 of ( a b c d e f )"), LOCKS, KEYS)[1:]
        self.assertEqual(answers[0][0], 20)
        self.assertEqual(answers[1], [6] + [10] * 6)

    def test_by_the_locks_just_those_open_who_may(self):
        for text in ("a", "a and b or c and d or e and f", "3 of ( a b c d e f )", "2 of ( a b c ) and 2 of ( d e f )",
                     "( a or b ) and ( c or d ) and ( e or f )", "anybody", "nobody", "a and 2 of ( b c d e f ) or f"):
            for chest in ([ruled(officers(6), text)], [ruled(officers(6), "a and f or c"), rule(text)]):
                locks = last(*chest, LOCKS)[1:]
                opened = [c for c in range(64) if all(lock & c for lock in locks)]
                self.assertEqual(opened, mays_behind(*chest))
                self.assertEqual(opened, mays(officers(6), text))
                self.assertEqual(last(*chest, scheme(locks)), [1])

    def test_no_scheme_has_fewer_locks_and_none_with_as_many_has_others(self):
        for count in range(5):
            rules = falling_sets(count)
            most = 6 if count == 4 else 3
            schemes = {}
            for size in range(most + 1):
                for locks in itertools.combinations(range(2 ** count), size):
                    opened = tuple(c for c in range(2 ** count) if all(lock & c for lock in locks))
                    schemes.setdefault(opened, []).append(locks)
            for least in rules:
                names = officers(count)
                locks = last(ruled(names, rule_of(least)), LOCKS)[1:]
                self.assertEqual(last(ruled(names, "nobody"), rule(rule_of(least)), LOCKS)[1:], locks)
                opened = tuple(c for c in range(2 ** count) if any(part & c == part for part in least))
                others = [some for some in schemes[opened] if len(some) <= len(locks)]
                self.assertEqual(others, [tuple(sorted(locks))])


class Schemes(unittest.TestCase):
    def test_the_first_company_for_which_it_is_otherwise(self):
        chest = ruled("a b c", "2 of ( a b c )")
        for locks, answer in (
                ([6, 5, 3], [1]), ([3, 5, 6], [1]), ([3, 3, 5, 6, 7], [1]), ([3, 5, 6, 3], [1]),
                ([], [0, 0]), ([7], [0, 1]), ([3, 5], [0, 1]), ([3, 6], [0, 2]), ([5, 6], [0, 4]),
                ([0], [0, 3]), ([1], [0, 1]), ([1, 2], [0, 5]), ([1, 4], [0, 3]), ([1, 2, 4], [0, 3]), ([4, 3], [0, 3])):
            self.assertEqual(last(chest, scheme(locks)), answer, locks)

    def test_no_locks_let_anybody_and_one_without_keys_nobody(self):
        for count in range(7):
            names = officers(count)
            self.assertEqual(last(ruled(names, "anybody"), scheme([])), [1])
            self.assertEqual(last(ruled(names, "anybody"), scheme([0])), [0, 0])
            self.assertEqual(last(ruled(names, "nobody"), scheme([])), [0, 0])
            self.assertEqual(last(ruled(names, "nobody"), scheme([0])), [1])
            self.assertEqual(last(ruled(names, "nobody"), scheme([0, 2 ** count - 1])), [1])

    def test_which_companies_there_are(self):
        for count in range(7):
            chest = ruled(officers(count), "nobody")
            self.assertEqual(last(chest, scheme([0, 2 ** count - 1])), [1])
            self.assertEqual(last(chest, scheme([0, 2 ** count])), [-4])
            self.assertEqual(last(chest, scheme([-1, 0])), [-4])

    def test_a_hundred_locks_and_one_more(self):
        chest = ruled("a b", "a and b")
        self.assertEqual(last(chest, scheme([1, 2] * 50)), [1])
        self.assertEqual(last(chest, scheme([1, 2] * 50 + [1])), [-4])
        self.assertEqual(last(chest, scheme([3] * 100)), [0, 1])

    def test_other_schemes_that_do_the_same(self):
        chest = ruled("a b c", "a or b and c")
        self.assertEqual(run(chest, LOCKS, scheme([3, 5]), scheme([3, 5, 7]), scheme([7, 7]))[1:],
                         [[2, 5, 3], [1], [1], [0, 2]])


class Swings(unittest.TestCase):
    def holds(self, names, rule, swings):
        self.assertEqual(last(ruled(names, rule), SWINGS), [len(swings)] + swings)

    def test_ordinary_rules(self):
        self.holds("a", "a", [1])
        self.holds("a b", "a", [2, 0])
        self.holds("a b", "b", [0, 2])
        self.holds("a b", "a and b", [1, 1])
        self.holds("a b", "a or b", [1, 1])
        self.holds("a b c", "2 of ( a b c )", [2, 2, 2])
        self.holds("a b c", "a and ( b or c )", [3, 1, 1])
        self.holds("a b c", "a or b and c", [3, 1, 1])
        self.holds("a b c d", "d and ( a or b and c )", [3, 1, 1, 5])

    def test_six_officers(self):
        self.holds(officers(6), "3 of ( a b c d e f )", [10] * 6)
        self.holds(officers(6), "a", [32, 0, 0, 0, 0, 0])
        self.holds(officers(6), "f", [0, 0, 0, 0, 0, 32])
        self.holds(officers(6), "6 of ( a b c d e f )", [1] * 6)

    def test_anybody_and_nobody(self):
        for count in range(7):
            self.holds(officers(count), "anybody", [0] * count)
            self.holds(officers(count), "nobody", [0] * count)


if __name__ == "__main__":
    unittest.main()
