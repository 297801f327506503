"""The list handed in, the list given back, and the order of refusals."""

import unittest

from chestkeys.chest import answers
from support import (
    CLEAR, FORBIDDEN, KEYS, LEAST, LOCKS, SWINGS, TEXT, TOLD, as_bytes, event, file, last, listed, look, may,
    one_text, ruled, run, scheme, undo)

LEAST_NUMBER, GREATEST_NUMBER = -2 ** 63, 2 ** 63 - 1
TWO_OF_THREE = "officers a b c\nrule 2 of ( a b c )"


class TheLists(unittest.TestCase):
    def test_each_answer_stands_behind_how_many_numbers_it_has(self):
        calls = file("officers a b\nrule a and b\ncome a") + [6, 8, 7, 3, 7, 1, 0, 6]
        self.assertEqual(answers(calls), [
            2, 2, 1,
            4, 2, 1, 1, 2,
            2, 1, 3,
            1, 1,
            1, 0,
            1, 0,
            4, 0, 0, 0, 1])

    def test_a_refusal_is_one_number_alone(self):
        self.assertEqual(answers([7, 64, 7, 1, 5, 61, 5, 1, 12, 1, 1]), [1, -3, 1, -5, 1, -3, 1, -5, 1, -4])

    def test_text_tells_its_bytes_without_how_many(self):
        told = as_bytes("officers\nrule nobody")
        self.assertEqual(answers([3]), [1 + len(told), 0] + told)

    def test_rows_without_numbers(self):
        self.assertEqual(answers([1, 0, 2, 0, 4, 0, 12, 0, 6]),
                         [1, -1000, 2, 1, 0, 1, -1000, 2, 0, 0, 4, 0, 0, 0, 1])

    def test_calls_behind_a_list_are_found(self):
        self.assertEqual(run(scheme([7, 3, 8]), look("0"), event("6"), CLEAR), [[-4], [1, 0], [-1000], [0]])

    def test_a_hundred_calls(self):
        self.assertEqual(run(*[TOLD] * 100), [[0, 0, 0, 1]] * 100)

    def test_a_long_list(self):
        text = file("officers a\nrule " + "a or " * 390 + "a")
        self.assertEqual(run(*[text] * 8), [[1, 0]] * 8)

    def test_what_is_handed_in_stays_as_it_was(self):
        calls = []
        for call in (file(TWO_OF_THREE), event("come a"), look("x"), scheme([3, 5, 6]), scheme([9]), TEXT, undo(0),
                     may(3), may(99), LOCKS, KEYS, SWINGS, LEAST, FORBIDDEN, TOLD, CLEAR, event("open")):
            calls.extend(call)
        before = list(calls)
        answers(calls)
        self.assertEqual(calls, before)

    def test_what_is_handed_in_is_not_changed_for_a_while_either(self):
        class Watched(list):
            def refuse(self, *given):
                raise AssertionError("the list is changed")
            append = extend = insert = pop = remove = clear = sort = reverse = refuse
            __setitem__ = __delitem__ = __iadd__ = __imul__ = refuse

        calls = file(TWO_OF_THREE) + event("come a") + scheme([3, 5, 6]) + undo(0) + LOCKS + CLEAR + TEXT
        self.assertEqual(answers(Watched(calls)), answers(calls))

    def test_nothing_is_kept_from_one_time_to_the_next(self):
        calls = TOLD + TEXT + file(TWO_OF_THREE) + event("come a") + event("come b") + event("open") + TOLD + TEXT
        first = answers(calls)
        self.assertEqual(answers(TOLD + TEXT), first[:7 + len("officers\nrule nobody")])
        self.assertEqual(answers(calls), first)

    def test_what_is_given_back_belongs_to_nobody_else(self):
        calls = file(TWO_OF_THREE) + LEAST + FORBIDDEN + LOCKS + KEYS + SWINGS + TEXT
        first = answers(calls)
        kept = list(first)
        first.clear()
        self.assertEqual(answers(calls), kept)

    def test_answers_are_whole_numbers_in_a_list(self):
        found = answers(file(TWO_OF_THREE) + may(3) + may(1) + scheme([3]) + look("x") + look(TWO_OF_THREE) + SWINGS
                        + KEYS + LOCKS + LEAST + FORBIDDEN + TOLD + undo(0) + CLEAR + may(0) + TEXT)
        self.assertIs(type(found), list)
        self.assertEqual({type(number) for number in found}, {int})


class TheBeginning(unittest.TestCase):
    def test_no_officers_the_rule_nobody_no_events(self):
        self.assertEqual(run(TOLD, may(0), LEAST, FORBIDDEN, LOCKS, KEYS, SWINGS, undo(0)),
                         [[0, 0, 0, 1], [0], [0], [1, 0], [1, 0], [0], [0], [0]])
        self.assertEqual(one_text(), "officers\nrule nobody")
        self.assertEqual(last(event("open")), [-1000])

    def test_clear_makes_it_so_again(self):
        before = [file("officers a b\nrule anybody\ncome a\nopen"), CLEAR]
        self.assertEqual(run(*before)[1], [0])
        self.assertEqual(run(*before, TOLD, may(0), may(1), undo(1), event("come a"))[2:],
                         [[0, 0, 0, 1], [0], [-5], [-5], [-1005]])
        self.assertEqual(one_text(*before), "officers\nrule nobody")

    def test_clear_on_a_new_chest(self):
        self.assertEqual(run(CLEAR, CLEAR, TOLD), [[0], [0], [0, 0, 0, 1]])


class Refusals(unittest.TestCase):
    def test_a_company_out_of_range_then_one_that_is_not_there(self):
        chest = ruled("a b", "a")
        for company in (LEAST_NUMBER, -64, -1, 64, 65, GREATEST_NUMBER):
            self.assertEqual(last(chest, may(company)), [-3])
        for company in (4, 5, 32, 63):
            self.assertEqual(last(chest, may(company)), [-5])
        for company in (0, 1, 2, 3):
            self.assertEqual(last(chest, may(company)), [company % 2])

    def test_which_companies_there_are(self):
        for count in range(7):
            chest = ruled(" ".join("abcdef"[:count]), "anybody")
            self.assertEqual(run(chest, *[may(company) for company in range(65)])[1:],
                             [[1]] * 2 ** count + [[-5]] * (64 - 2 ** count) + [[-3]])

    def test_a_number_of_events_out_of_range_then_more_than_there_are(self):
        chest = file("officers a\nrule nobody\ncome a\ngo a")
        for k in (LEAST_NUMBER, -1, 61, GREATEST_NUMBER):
            self.assertEqual(last(chest, undo(k)), [-3])
        for k in (3, 4, 59, 60):
            self.assertEqual(last(chest, undo(k)), [-5])

    def test_numbers_that_are_no_bytes(self):
        for wrong in (LEAST_NUMBER, -1, 256, 1000, GREATEST_NUMBER):
            for call in (1, 2, 4):
                for text in ([wrong], as_bytes("officers\nrule nobody") + [wrong], [wrong] + as_bytes("open")):
                    self.assertEqual(last(listed(call, text)), [-1])

    def test_bytes_are_looked_for_ahead_of_faults(self):
        for call in (1, 2, 4):
            self.assertEqual(last(listed(call, as_bytes("wrong words ") + [256])), [-1])

    def test_each_byte_can_be_handed_in(self):
        for byte in range(256):
            self.assertEqual(run(listed(1, [byte]), listed(2, [byte]), listed(4, [byte])), [[-1000], [1, 0], [-1000]])
            text = as_bytes("officers a\nrule a ") + [byte]
            self.assertEqual(run(listed(1, text), listed(2, text)), [[-1018], [1, 18]])

    def test_two_thousand_numbers(self):
        text = "officers a bb\nrule " + "a or " * 396 + "a"
        self.assertEqual(len(text), 2000)
        self.assertEqual(run(look(text), file(text)), [[0], [2, 0]])
        self.assertEqual(one_text(file(text)), text)

    def test_more_than_two_thousand_numbers(self):
        for call in (1, 2, 4):
            self.assertEqual(last(listed(call, as_bytes("x" * 2000))), [1, 0] if call == 2 else [-1000])
            self.assertEqual(last(listed(call, as_bytes("x" * 2001))), [-1])

    def test_the_place_of_a_fault_at_the_end_of_a_longest_text(self):
        text = "officers a\nrule " + "a or " * 396 + "a or"
        self.assertEqual(len(text), 2000)
        self.assertEqual(run(file(text), look(text)), [[-3000], [1, 2000]])

    def test_locks_that_are_no_companies_or_too_many(self):
        chest = ruled("a b", "a")
        for locks in ([LEAST_NUMBER], [-1], [4], [1, 2, 4], [GREATEST_NUMBER], [1] * 101, [1] * 100 + [4], [1] * 2000):
            self.assertEqual(last(chest, scheme(locks)), [-4])
        self.assertEqual(last(chest, scheme([1] * 100)), [1])

    def test_a_refused_call_changes_nothing(self):
        chest = file("officers a b\nrule a and ( b or a )\ncome a\nstand a for b\nopen")
        views = [TEXT, TOLD, LEAST, FORBIDDEN, LOCKS, KEYS, SWINGS]
        before = run(chest, *views)[1:]
        refused = [
            file("officers c\nrule c\ngo c"), file(""), file("officers c\nrule d"), listed(1, [256]),
            listed(1, as_bytes("officers\nrule anybody") + [-1]), event("come a"), event("go b"), event("nobody"),
            event("die b\n"), event("stand a for b"), listed(4, [-1]), listed(4, []), undo(-1), undo(61), undo(4),
            may(64), may(4), scheme([4]), listed(2, [300])]
        for call in refused:
            found = run(chest, call, *views)
            self.assertLess(found[1][0], 0)
            self.assertEqual(len(found[1]), 1)
            self.assertEqual(found[2:], before)
        self.assertEqual(run(chest, *refused, *views)[-len(views):], before)

    def test_look_changes_nothing(self):
        chest = file("officers a\nrule a\ncome a")
        before = run(chest, TEXT, TOLD)[1:]
        for text in ("officers\nrule anybody\nopen", "officers x\nrule y", ""):
            self.assertEqual(run(chest, look(text), TEXT, TOLD)[2:], before)

    def test_a_call_that_there_is_not_yet(self):
        later = [[14], [15], [16, 0, 0], [17], [18, 0], [19, 0], [20, 1, 1], [21], [22, 1, 97], [23, 1, 97], [24],
                 [25, 0], [26]]
        for call in later:
            self.assertEqual(run(ruled("a", "a"), call, LEAST), [[1, 0], [-100], [1, 1]])

    def test_a_number_that_no_call_has(self):
        for number in (LEAST_NUMBER, -1, 27, GREATEST_NUMBER):
            self.assertEqual(run(ruled("a", "a"), [number], LEAST), [[1, 0], [-100], [1, 1]])


if __name__ == "__main__":
    unittest.main()
