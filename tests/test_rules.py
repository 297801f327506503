"""A rule as a text of its own: setting it, and comparing with it."""

import unittest

from support import (
    CLEAR, FORBIDDEN, GREATEST_NUMBER, LEAST, LEAST_NUMBER, LOCKS, NOW, OPENED, POWER, TEXT, TOLD, as_bytes, compare,
    event, falling_sets, file, last, listed, mays_behind, officers, one_text, rule, rule_of, ruled, run, undo)

THREE = ruled("a b c", "a and b")
WITH_EVENTS = file("officers a b c\nrule a\ncome a\nopen")


class Faults(unittest.TestCase):
    def fault(self, text, place):
        """rule and compare both find the fault at this place."""
        self.assertEqual(run(THREE, rule(text), compare(text))[1:], [[-1000 - place]] * 2, text)

    def fault_at(self, text):
        """The fault is where a ^ stands in the text, ahead of the word."""
        self.fault(text.replace("^", "", 1), text.index("^"))

    def stands(self, text):
        self.assertEqual(run(THREE, rule(text), compare(text))[1:], [[0], [1]], text)

    def test_an_empty_text(self):
        self.fault("", 0)
        self.assertEqual(run(rule(""), compare("")), [[-1000], [-1000]])

    def test_words_missing_at_the_end(self):
        for text in ("a or", "a and", "(", "( a", "( a or", "2", "2 of", "2 of (", "2 of ( a", "2 of ( a b", "( 2 of ( a b )"):
            self.fault(text, len(text))

    def test_empty_words(self):
        for text in ("^ ", "^ a", "a ^", "a ^ or b", "a or ^ b", "a or ^", "( ^ a )", "2 ^ of ( a b )", "2 of ( a ^ b )"):
            self.fault_at(text)

    def test_line_ends(self):
        for text in ("^\n", "^\na", "a^\n", "a^\n\n", "a or^\nb", "(^\na )", "a^\ncome a", "a^\nopen", "a ^\nb", "( a^\n)"):
            self.fault_at(text)

    def test_words_behind_the_rules_end(self):
        for word in ("a", "b", "anybody", "(", ")", "2", "of", "rule", "come", "x", "A", "?", "and,"):
            self.fault_at("a ^" + word)
            self.fault_at("( a or b ) ^" + word + " a")
            self.fault_at("2 of ( a b ) ^" + word)
            self.fault_at("a and anybody ^" + word)

    def test_where_a_rule_is_due(self):
        for word in ("d", "and", "or", "of", ")", "0", "7", "01", "come", "rule", "A", "Anybody", "open"):
            self.fault_at("^" + word)
            self.fault_at("^" + word + " a")
            self.fault_at("a or ^" + word)
            self.fault_at("( ^" + word + " )")

    def test_it_does_not_begin_with_the_word_rule(self):
        self.fault_at("^rule a")
        self.fault_at("^officers a\nrule a")

    def test_so_many(self):
        for text in ("1 of ( a )", "2 of ( a c )", "3 of ( a b c )", "1 of ( b c )"):
            self.stands(text)
        for text in ("2 of ( b ^a )", "2 of ( a ^a )", "2 of ( a ^)", "4 of ( a b c ^)", "2 of ( ^)", "2 of ( a b ^d )",
                     "^7 of ( a b c )", "^0 of ( a )", "2 ^( a b )", "2 of ^a"):
            self.fault_at(text)

    def test_brackets(self):
        self.stands("( " * 8 + "a" + " )" * 8)
        self.stands("( " * 8 + "2 of ( a b )" + " )" * 8)
        self.fault_at("( " * 8 + "^( a" + " )" * 9)
        self.fault_at("( a ) ^)")
        self.fault("( ( a )", 7)

    def test_only_the_officers_that_there_are(self):
        self.assertEqual(run(rule("a"), compare("a"), rule("anybody"), compare("anybody")), [[-1000], [-1000], [0], [1]])
        self.assertEqual(run(rule("1 of ( )"), compare("nobody or a")), [[-1007], [-1010]])
        self.assertEqual(run(ruled("x y", "x"), rule("x and a"), compare("x or y or z"))[1:], [[-1006], [-1010]])
        self.assertEqual(run(ruled("x y", "x"), file("officers a\nrule a"), rule("x"), rule("a"))[2:], [[-1000], [0]])
        self.assertEqual(run(ruled("x", "x"), CLEAR, rule("x"), compare("x"))[2:], [[-1000], [-1000]])

    def test_numbers_that_are_no_bytes_come_first(self):
        for call in (22, 23):
            for wrong in (LEAST_NUMBER, -1, 256, GREATEST_NUMBER):
                for text in ([wrong], as_bytes("a") + [wrong], as_bytes("d d ") + [wrong], [wrong] + as_bytes(" a")):
                    self.assertEqual(last(THREE, listed(call, text)), [-1])
                    self.assertEqual(last(WITH_EVENTS, listed(call, text)), [-1])

    def test_two_thousand_bytes_and_one_more(self):
        text = "a or " * 398 + "2 of ( b", "a or " * 399 + "bb or", "a or " * 398 + "nobody or a"
        self.assertEqual([len(one) for one in text], [1998, 2000, 2001])
        longest = "( " + "a or " * 397 + "( b or c ) )"
        self.assertEqual(len(longest), 1999)
        names = file("officers a b c bb\nrule nobody")
        for call, done in ((rule, [0]), (compare, [1])):
            chest = [names, rule("a or b or c")]
            self.assertEqual(last(*chest, call(longest)), done)
            self.assertEqual(last(*chest, call(text[0])), [-2998])
            self.assertEqual(last(*chest, call(text[1])), [-3000])
            self.assertEqual(last(*chest, call(text[2])), [-1])


class SetRule(unittest.TestCase):
    def test_the_rule_is_that(self):
        for text in ("a", "b or c", "a and ( b or c )", "2 of ( a b c )", "anybody", "nobody"):
            self.assertEqual(last(THREE, rule(text)), [0])
            self.assertEqual(mays_behind(THREE, rule(text)), mays_behind(ruled("a b c", text)))
            views = [TEXT, TOLD, LEAST, FORBIDDEN, LOCKS, POWER, NOW, OPENED]
            self.assertEqual(run(THREE, rule(text), *views)[2:], run(ruled("a b c", text), *views)[1:])

    def test_all_rules_of_three_officers(self):
        for least in falling_sets(3):
            self.assertEqual(last(THREE, rule(rule_of(least)), LEAST), [len(least)] + sorted(least))

    def test_its_one_text(self):
        for text, told in (("( a or b ) or ( c )", "a or b or c"), ("a and ( b and c )", "a and ( b and c )"),
                           ("( ( a or b ) ) and c", "( a or b ) and c"), ("( 2 of ( a b ) )", "2 of ( a b )")):
            self.assertEqual(one_text(THREE, rule(text)), "officers a b c\nrule " + told)

    def test_where_there_are_no_officers(self):
        self.assertEqual(run(rule("anybody"), TOLD, event("open"), rule("nobody"), NOW),
                         [[0], [0, 0, 1, 0], [1], [-6], [0, 0, 0, 1, 1]])

    def test_six_officers(self):
        self.assertEqual(run(ruled(officers(6), "nobody"), rule("6 of ( a b c d e f )"), LEAST)[1:], [[0], [1, 63]])

    def test_one_behind_another(self):
        self.assertEqual(run(THREE, rule("a"), LEAST, rule("b"), LEAST, rule("d"), LEAST, rule("c"), LEAST)[1:],
                         [[0], [1, 1], [0], [1, 2], [-1000], [1, 2], [0], [1, 4]])

    def test_where_there_are_events(self):
        self.assertEqual(run(WITH_EVENTS, rule("a"), rule("b"), undo(1), rule("b"), undo(0), rule("b"), LEAST)[1:],
                         [[-6], [-6], [1], [-6], [0], [0], [1, 2]])
        self.assertEqual(run(THREE, event("die c"), rule("a"), CLEAR, rule("anybody"))[1:], [[1], [-6], [0], [0]])
        self.assertEqual(run(WITH_EVENTS, THREE, rule("c"), LEAST)[1:], [[3, 0], [0], [1, 4]])

    def test_a_fault_comes_ahead_of_events(self):
        self.assertEqual(run(WITH_EVENTS, rule(""), rule("a b"), rule("d"), rule("a or"), rule("a\n"))[1:],
                         [[-1000], [-1002], [-1000], [-1004], [-1001]])

    def test_a_refused_rule_changes_nothing(self):
        views = [TEXT, TOLD, LEAST, FORBIDDEN, NOW, OPENED]
        for chest, refused in ((WITH_EVENTS, [rule("b"), rule("b b"), rule(""), listed(22, [98, 256])]),
                               (THREE, [rule("b b"), rule("c or"), rule(""), listed(22, [98, -1]), rule("c\ncome c")])):
            before = run(chest, *views)[1:]
            for call in refused:
                self.assertEqual(run(chest, call, *views)[2:], before)
            self.assertEqual(run(chest, *refused, *views)[1 + len(refused):], before)

    def test_events_go_by_the_new_rule(self):
        self.assertEqual(run(THREE, rule("c"), event("come a"), event("open"), event("come c"), event("open"))[1:],
                         [[0], [1], [-1000], [2], [3]])


class Compare(unittest.TestCase):
    def test_like_rules(self):
        for first, second in (("a", "a"), ("a", "( a )"), ("a or b", "b or a"), ("a", "a or a and b"),
                              ("a and b or a and c or b and c", "2 of ( a b c )"), ("a and nobody", "nobody"),
                              ("a or anybody", "anybody"), ("1 of ( a b c )", "a or b or c")):
            self.assertEqual(run(ruled("a b c", first), compare(second))[1:], [[1]])
            self.assertEqual(run(ruled("a b c", second), compare(first))[1:], [[1]])

    def test_the_first_company_for_which_it_is_otherwise(self):
        for first, second, company in (("a", "b", 1), ("a", "anybody", 0), ("nobody", "anybody", 0), ("a", "nobody", 1),
                                       ("a", "a and b", 1), ("a and b", "a and c", 3), ("2 of ( a b c )", "a and b", 5),
                                       ("2 of ( a b c )", "3 of ( a b c )", 3), ("a and b and c", "nobody", 7),
                                       ("a or b", "a or b or c", 4), ("a or b and c", "a", 6)):
            self.assertEqual(last(ruled("a b c", first), compare(second)), [0, company])
            self.assertEqual(last(ruled("a b c", second), compare(first)), [0, company])

    def test_all_pairs_of_rules_of_three_officers(self):
        rules = [rule_of(least) for least in falling_sets(3)]
        may = [mays_behind(ruled("a b c", text)) for text in rules]
        for k, text in enumerate(rules):
            answers = run(ruled("a b c", text), *[compare(other) for other in rules])[1:]
            expected = [[0, min(set(may[k]) ^ set(other))] if may[k] != other else [1] for other in may]
            self.assertEqual(answers, expected)

    def test_no_officers_and_six(self):
        self.assertEqual(run(compare("nobody"), compare("anybody")), [[1], [0, 0]])
        self.assertEqual(run(ruled(officers(6), "a and f"), compare("f and a"), compare("f and a or b and c and d and e"),
                             compare("6 of ( a b c d e f )"))[1:], [[1], [0, 30], [0, 33]])

    def test_against_the_rule_that_was_set(self):
        self.assertEqual(run(THREE, compare("c"), rule("c"), compare("c"), compare("a and b"))[1:],
                         [[0, 3], [0], [1], [0, 3]])

    def test_where_there_are_events(self):
        self.assertEqual(run(WITH_EVENTS, compare("a"), compare("b"), compare("b b"))[1:], [[1], [0, 1], [-1002]])

    def test_it_changes_nothing(self):
        views = [TEXT, TOLD, LEAST, NOW]
        for chest in (THREE, WITH_EVENTS):
            before = run(chest, *views)[1:]
            self.assertEqual(run(chest, compare("c"), compare("a"), compare("wrong"), *views)[4:], before)


if __name__ == "__main__":
    unittest.main()
