"""The list handed in, the list given back, and the order of refusals."""

import unittest

from chestkeys.chest import answers
from support import (
    CLEAR, FORBIDDEN, GREATEST_NUMBER, HINDER, IDLE, KEYS, LEAST, LEAST_NUMBER, LOCKS, NOW, OPENED, POWER, SWINGS, TEXT,
    TOLD, TRADE, WITH_TEXT, alike, as_bytes, behind, compare, event, file, last, listed, look, may, one_text, rule, ruled,
    run, scheme, undo, weigh, weights, without)

TWO_OF_THREE = "officers a b c\nrule 2 of ( a b c )"
# All that's asked of a chest of three officers without changing it.
VIEWS = (TEXT, TOLD, may(3), may(4), LEAST, FORBIDDEN, LOCKS, KEYS, scheme([3, 5, 6]), SWINGS, POWER, IDLE, alike(0, 2),
         HINDER, without(1), weights(2), weigh([2, 1, 1]), TRADE, compare("a or b"), NOW, behind(0), OPENED)
# Each of the 27 calls, done and refused.
ALL_CALLS = (
    rule("anybody"), event("open"), OPENED, file(TWO_OF_THREE), rule("a or b and c"), look(TWO_OF_THREE), *VIEWS,
    event("come a"), event("stand a for c"), event("open"), *VIEWS, rule("b"), undo(1), undo(9), behind(1), behind(99),
    may(99), scheme([9]), alike(0, 9), without(9), weights(9), weigh([1]), rule("x"), compare("x"), file("x"),
    event("x"), look("x"), CLEAR, TEXT, TOLD, NOW)


def joined(calls):
    return [number for call in calls for number in call]


class TheLists(unittest.TestCase):
    def test_each_answer_stands_behind_how_many_numbers_it_has(self):
        calls = file("officers a b\nrule a and b\ncome a") + [6, 8, 7, 3, 7, 1, 0, 6]
        self.assertEqual(answers(calls), [
            2, 2, 1,
            4, 2, 1, 1, 2,
            2, 1, 3,
            1, 1,
            1, 0,
            1, 0,
            4, 0, 0, 0, 1])

    def test_a_refusal_is_one_number_alone(self):
        self.assertEqual(answers([7, 64, 7, 1, 5, 61, 5, 1, 12, 1, 1]), [1, -3, 1, -5, 1, -3, 1, -5, 1, -4])

    def test_text_tells_its_bytes_without_how_many(self):
        told = as_bytes("officers\nrule nobody")
        self.assertEqual(answers([3]), [1 + len(told), 0] + told)

    def test_rows_without_numbers(self):
        self.assertEqual(answers([1, 0, 2, 0, 4, 0, 12, 0, 20, 0, 22, 0, 23, 0, 6]),
                         [1, -1000, 2, 1, 0, 1, -1000, 2, 0, 0, 2, 1, 1, 1, -1000, 1, -1000, 4, 0, 0, 0, 1])

    def test_calls_behind_a_list_are_found(self):
        self.assertEqual(run(scheme([7, 3, 8]), look("0"), event("6"), CLEAR), [[-4], [1, 0], [-1000], [0]])
        self.assertEqual(run(weigh([14, 24]), rule("0"), compare("0"), alike(14, 3), weights(26), behind(14), without(24), NOW),
                         [[-4], [-1000], [-1000], [-3], [-3], [-5], [-5], [0, 0, 0, 0, 0]])

    def test_a_hundred_calls(self):
        self.assertEqual(run(*[TOLD] * 100), [[0, 0, 0, 1]] * 100)

    def test_a_long_list(self):
        text = file("officers a\nrule " + "a or " * 390 + "a")
        self.assertEqual(run(*[text] * 8), [[1, 0]] * 8)

    def test_what_is_handed_in_stays_as_it_was(self):
        self.assertEqual({call[0] for call in ALL_CALLS}, set(range(27)))
        self.assertLessEqual(len(ALL_CALLS), 100)
        calls = joined(ALL_CALLS)
        before = list(calls)
        answers(calls)
        self.assertEqual(calls, before)

    def test_what_is_handed_in_is_not_changed_for_a_while_either(self):
        class Watched(list):
            def refuse(self, *given):
                raise AssertionError("the list is changed")
            append = extend = insert = pop = remove = clear = sort = reverse = refuse
            __setitem__ = __delitem__ = __iadd__ = __imul__ = refuse

        calls = joined(ALL_CALLS)
        self.assertEqual(answers(Watched(calls)), answers(calls))

    def test_nothing_is_kept_from_one_time_to_the_next(self):
        calls = TOLD + TEXT + file(TWO_OF_THREE) + event("come a") + event("come b") + event("open") + TOLD + TEXT
        first = answers(calls)
        self.assertEqual(answers(TOLD + TEXT), first[:7 + len("officers\nrule nobody")])
        self.assertEqual(answers(calls), first)

    def test_a_second_time_is_as_the_first_with_all_calls(self):
        new = [[0] + as_bytes("officers\nrule nobody"), [0, 0, 0, 1], [0], [1, 0], [0], [0], [1, 0], [1, 1, 0], [0],
               [0, 0, 0, 0, 0], [0]]
        asked = [TEXT, TOLD, LEAST, LOCKS, POWER, IDLE, HINDER, weights(5), TRADE, NOW, OPENED]
        first = run(*ALL_CALLS)
        self.assertEqual(run(*asked), new)
        self.assertEqual(run(*ALL_CALLS), first)
        self.assertEqual(run(*ALL_CALLS[:-4])[-1], first[-5])
        self.assertEqual(run(*asked), new)

    def test_what_is_given_back_belongs_to_nobody_else(self):
        calls = joined(ALL_CALLS)
        first = answers(calls)
        kept = list(first)
        first.clear()
        self.assertEqual(answers(calls), kept)

    def test_answers_are_whole_numbers_in_a_list(self):
        found = answers(joined(ALL_CALLS))
        self.assertIs(type(found), list)
        self.assertEqual({type(number) for number in found}, {int})


class TheBeginning(unittest.TestCase):
    def test_no_officers_the_rule_nobody_no_events(self):
        self.assertEqual(run(TOLD, may(0), LEAST, FORBIDDEN, LOCKS, KEYS, SWINGS, undo(0)),
                         [[0, 0, 0, 1], [0], [0], [1, 0], [1, 0], [0], [0], [0]])
        self.assertEqual(one_text(), "officers\nrule nobody")
        self.assertEqual(last(event("open")), [-1000])

    def test_clear_makes_it_so_again(self):
        before = [file("officers a b\nrule anybody\ncome a\nopen"), CLEAR]
        self.assertEqual(run(*before)[1], [0])
        self.assertEqual(run(*before, TOLD, may(0), may(1), undo(1), event("come a"))[2:],
                         [[0, 0, 0, 1], [0], [-5], [-5], [-1005]])
        self.assertEqual(one_text(*before), "officers\nrule nobody")

    def test_clear_on_a_new_chest(self):
        self.assertEqual(run(CLEAR, CLEAR, TOLD), [[0], [0], [0, 0, 0, 1]])


class Refusals(unittest.TestCase):
    def test_a_company_out_of_range_then_one_that_is_not_there(self):
        chest = ruled("a b", "a")
        for company in (LEAST_NUMBER, -64, -1, 64, 65, GREATEST_NUMBER):
            self.assertEqual(last(chest, may(company)), [-3])
        for company in (4, 5, 32, 63):
            self.assertEqual(last(chest, may(company)), [-5])
        for company in (0, 1, 2, 3):
            self.assertEqual(last(chest, may(company)), [company % 2])

    def test_which_companies_there_are(self):
        for count in range(7):
            chest = ruled(" ".join("abcdef"[:count]), "anybody")
            self.assertEqual(run(chest, *[may(company) for company in range(65)])[1:],
                             [[1]] * 2 ** count + [[-5]] * (64 - 2 ** count) + [[-3]])

    def test_a_number_of_events_out_of_range_then_more_than_there_are(self):
        chest = file("officers a\nrule nobody\ncome a\ngo a")
        for k in (LEAST_NUMBER, -1, 61, GREATEST_NUMBER):
            self.assertEqual(last(chest, undo(k)), [-3])
        for k in (3, 4, 59, 60):
            self.assertEqual(last(chest, undo(k)), [-5])

    def test_numbers_that_are_no_bytes(self):
        for wrong in (LEAST_NUMBER, -1, 256, 1000, GREATEST_NUMBER):
            for call in WITH_TEXT:
                for text in ([wrong], as_bytes("officers\nrule nobody") + [wrong], [wrong] + as_bytes("open")):
                    self.assertEqual(last(listed(call, text)), [-1])

    def test_bytes_are_looked_for_ahead_of_faults(self):
        for call in WITH_TEXT:
            self.assertEqual(last(listed(call, as_bytes("wrong words ") + [256])), [-1])

    def test_each_byte_can_be_handed_in(self):
        for byte in range(256):
            # A rule may begin with a bracket or a number; then there are words missing behind it.
            rule_fault = [-1001] if byte in b"(123456" else [-1000]
            self.assertEqual(run(*[listed(call, [byte]) for call in WITH_TEXT]),
                             [[-1000], [1, 0], [-1000], rule_fault, rule_fault])
            text = as_bytes("officers a\nrule a ") + [byte]
            self.assertEqual(run(listed(1, text), listed(2, text)), [[-1018], [1, 18]])

    def test_two_thousand_numbers(self):
        text = "officers a bb\nrule " + "a or " * 396 + "a"
        self.assertEqual(len(text), 2000)
        self.assertEqual(run(look(text), file(text)), [[0], [2, 0]])
        self.assertEqual(one_text(file(text)), text)

    def test_more_than_two_thousand_numbers(self):
        for call in WITH_TEXT:
            self.assertEqual(last(listed(call, as_bytes("x" * 2000))), [1, 0] if call == 2 else [-1000])
            self.assertEqual(last(listed(call, as_bytes("x" * 2001))), [-1])

    def test_the_place_of_a_fault_at_the_end_of_a_longest_text(self):
        text = "officers a\nrule " + "a or " * 396 + "a or"
        self.assertEqual(len(text), 2000)
        self.assertEqual(run(file(text), look(text)), [[-3000], [1, 2000]])

    def test_locks_that_are_no_companies_or_too_many(self):
        chest = ruled("a b", "a")
        for locks in ([LEAST_NUMBER], [-1], [4], [1, 2, 4], [GREATEST_NUMBER], [1] * 101, [1] * 100 + [4], [1] * 2000):
            self.assertEqual(last(chest, scheme(locks)), [-4])
        self.assertEqual(last(chest, scheme([1] * 100)), [1])

    def test_a_refused_call_changes_nothing(self):
        chest = file("officers a b\nrule a and ( b or a )\ncome a\nstand a for b\nopen")
        views = [TEXT, TOLD, LEAST, FORBIDDEN, LOCKS, KEYS, SWINGS, POWER, HINDER, weights(2), TRADE, NOW, OPENED]
        before = run(chest, *views)[1:]
        refused = [
            file("officers c\nrule c\ngo c"), file(""), file("officers c\nrule d"), listed(1, [256]),
            listed(1, as_bytes("officers\nrule anybody") + [-1]), event("come a"), event("go b"), event("nobody"),
            event("die b\n"), event("stand a for b"), listed(4, [-1]), listed(4, []), undo(-1), undo(61), undo(4),
            may(64), may(4), scheme([4]), listed(2, [300]), alike(6, 0), alike(0, 2), without(64), without(4),
            weights(6), weigh([1]), weigh([1, -1]), rule("b"), rule("c"), listed(22, [-1]), compare("c"), compare(""),
            behind(-1), behind(4)]
        for call in refused:
            found = run(chest, call, *views)
            self.assertLess(found[1][0], 0)
            self.assertEqual(len(found[1]), 1)
            self.assertEqual(found[2:], before)
        self.assertEqual(run(chest, *refused, *views)[-len(views):], before)

    def test_look_changes_nothing(self):
        chest = file("officers a\nrule a\ncome a")
        before = run(chest, TEXT, TOLD)[1:]
        for text in ("officers\nrule anybody\nopen", "officers x\nrule y", ""):
            self.assertEqual(run(chest, look(text), TEXT, TOLD)[2:], before)

    def test_none_of_the_calls_is_answered_as_if_there_were_no_such_call(self):
        calls = [CLEAR, file(""), look(""), TEXT, event(""), undo(0), TOLD, may(0), LEAST, FORBIDDEN, LOCKS, KEYS, scheme([]),
                 SWINGS, POWER, IDLE, alike(0, 0), HINDER, without(0), weights(0), weigh([]), TRADE, rule(""), compare(""),
                 NOW, behind(0), OPENED]
        self.assertEqual([call[0] for call in calls], list(range(27)))
        for chest in (CLEAR, ruled("a", "a")):
            for call in calls:
                self.assertNotEqual(last(chest, call), [-100])
            self.assertNotIn([-100], run(chest, *calls))
        self.assertNotIn([-100], run(*ALL_CALLS))

    def test_a_number_that_no_call_has(self):
        for number in (LEAST_NUMBER, -1, 27, GREATEST_NUMBER):
            self.assertEqual(run(ruled("a", "a"), [number], LEAST), [[1, 0], [-100], [1, 1]])


if __name__ == "__main__":
    unittest.main()
