"""Who comes, goes, dies and stands in for whom, and when it may be opened."""

import unittest

from support import LEAST, TEXT, TOLD, event, file, last, may, one_text, ruled, run, undo


def story(rule, *events):
    """What's answered to each of these events by officers a to f with this rule."""
    return run(ruled("a b c d e f", rule), *[event(text) for text in events])[1:]


class WhatMayBe(unittest.TestCase):
    def last_is_refused(self, place, *events):
        answers = story("a", *events)
        self.assertEqual(answers[:-1], [[k + 1] for k in range(len(events) - 1)])
        self.assertEqual(answers[-1], [-1000 - place])

    def all_are_taken(self, *events):
        self.assertEqual(story("a", *events), [[k + 1] for k in range(len(events))])

    def test_who_comes_lives_and_is_not_there(self):
        self.all_are_taken("come a", "go a", "come a", "come b")
        self.last_is_refused(5, "come a", "come a")
        self.last_is_refused(5, "die a", "come a")
        self.last_is_refused(5, "come a", "die a", "come a")

    def test_who_goes_is_there(self):
        self.all_are_taken("come a", "go a")
        self.last_is_refused(3, "go a")
        self.last_is_refused(3, "come b", "go a")
        self.last_is_refused(3, "come a", "go a", "go a")
        self.last_is_refused(3, "come a", "die a", "go a")

    def test_who_dies_lives_there_or_not(self):
        self.all_are_taken("die a", "come b", "die b")
        self.last_is_refused(4, "die a", "die a")
        self.last_is_refused(4, "come a", "die a", "die a")

    def test_who_stands_in_for_another_one(self):
        self.all_are_taken("stand a for b", "stand b for a", "stand a for c", "stand c for b")
        self.last_is_refused(12, "stand a for a")
        self.last_is_refused(12, "come a", "stand a for a")

    def test_both_live(self):
        self.last_is_refused(12, "die a", "stand a for b")
        self.last_is_refused(12, "die b", "stand a for b")
        self.last_is_refused(12, "die b", "die a", "stand a for b")

    def test_not_told_already(self):
        self.last_is_refused(12, "stand a for b", "stand a for b")
        self.last_is_refused(12, "stand a for b", "come a", "go a", "stand c for b", "stand a for b")
        self.last_is_refused(12, "stand a for b", "die b", "stand a for b")
        self.last_is_refused(12, "stand a for b", "die a", "stand a for b")

    def test_a_refused_event_is_not_told(self):
        self.assertEqual(story("a", "go a", "come a", "come a", "stand a for a", "go a", "stand b for a", "die b"),
                         [[-1003], [1], [-1005], [-1012], [2], [3], [4]])


class WhoActs(unittest.TestCase):
    def acts(self, company, *events):
        """Just those in the company act behind the events."""
        for name in "abcdef":
            answer = story(name, *events, "open")[-1]
            self.assertEqual(answer, [len(events) + 1] if name in company else [-1000], name)
        together = " and ".join(company) if company else "anybody"
        self.assertEqual(story(together, *events, "open")[-1], [len(events) + 1])

    def test_nobody_at_first(self):
        self.acts("")

    def test_those_who_are_there(self):
        self.acts("a", "come a")
        self.acts("ac", "come a", "come c")
        self.acts("c", "come a", "come c", "go a")
        self.acts("f", "come f")
        self.acts("abcdef", *["come " + name for name in "abcdef"])

    def test_the_dead_are_not_there(self):
        self.acts("b", "come a", "come b", "die a")
        self.acts("b", "come b", "die a")

    def test_those_for_whom_one_of_these_stands_in(self):
        self.acts("ab", "come a", "stand a for b")
        self.acts("ab", "stand a for b", "come a")
        self.acts("", "stand a for b")
        self.acts("b", "stand a for b", "come b")
        self.acts("", "stand a for b", "come a", "go a")
        self.acts("abc", "stand a for b", "stand a for c", "come a")

    def test_through_several(self):
        self.acts("abc", "come a", "stand a for b", "stand b for c")
        self.acts("abc", "come a", "stand b for c", "stand a for b")
        self.acts("abcdef", "stand e for f", "stand d for e", "stand c for d", "stand b for c", "stand a for b", "come a")
        self.acts("abcdef", "stand b for a", "stand c for b", "stand d for c", "stand e for d", "stand f for e", "come f")
        self.acts("def", "stand e for f", "stand d for e", "stand c for d", "stand b for c", "stand a for b", "come d")

    def test_round_about(self):
        self.acts("abc", "stand a for b", "stand b for c", "stand c for a", "come b")
        self.acts("ab", "stand a for b", "stand b for a", "come b")

    def test_for_one_who_is_dead(self):
        self.acts("ab", "come a", "stand a for b", "die b")
        self.acts("ab", "come a", "come b", "stand a for b", "die b")

    def test_the_dead_stand_in_for_nobody(self):
        self.acts("", "come a", "stand a for b", "die a")
        self.acts("c", "come a", "come c", "stand a for b", "die a")
        self.acts("bc", "come a", "come c", "stand a for b", "stand c for b", "die a")

    def test_through_one_who_is_dead(self):
        self.acts("ab", "come a", "stand a for b", "stand b for c", "die b")
        self.acts("abc", "come a", "stand a for b", "stand b for c", "stand a for c", "die b")
        self.acts("abd", "come a", "stand a for b", "stand b for c", "stand a for d", "die b")

    def test_whoever_stands_in_and_goes_comes_again(self):
        self.acts("ab", "come a", "stand a for b", "go a", "come a")


class Opening(unittest.TestCase):
    def test_just_where_those_who_act_may(self):
        self.assertEqual(story("2 of ( a b c )", "open", "come a", "open", "come b", "open", "open", "go a", "open",
                               "stand b for c", "open", "die b", "open"),
                         [[-1000], [1], [-1000], [2], [3], [4], [5], [-1000], [6], [7], [8], [-1000]])

    def test_every_company(self):
        rule = "a and b or c and ( d or 2 of ( a e f ) )"
        chest = ruled("a b c d e f", rule)
        for company in range(64):
            come = [event("come " + "abcdef"[n]) for n in range(6) if company >> n & 1]
            answers = run(chest, may(company), *come, event("open"))
            self.assertEqual(answers[-1], [len(come) + 1] if answers[1] == [1] else [-1000])

    def test_more_may_too(self):
        self.assertEqual(story("a", "come a", "come b", "open")[-1], [3])

    def test_anybody_and_nobody(self):
        self.assertEqual(story("anybody", "open"), [[1]])
        self.assertEqual(story("nobody", *["come " + name for name in "abcdef"], "open")[-1], [-1000])
        self.assertEqual(run(file("officers\nrule anybody"), event("open")), [[0, 0], [1]])

    def test_nothing_else_is_changed_by_it(self):
        self.assertEqual(story("a", "come a", "open", "come a", "go a", "open"), [[1], [2], [-1005], [3], [-1000]])

    def test_in_a_file(self):
        head = "officers a b c\nrule a and c\n"
        self.assertEqual(last(file(head + "come a\nstand a for b\nstand b for c\nopen\ndie c\nopen")), [3, 6])
        self.assertEqual(last(file(head + "come a\nstand a for b\nstand b for c\nopen\ndie b\nopen")),
                         [-1000 - len(head + "come a\nstand a for b\nstand b for c\nopen\ndie b\n")])


class Undo(unittest.TestCase):
    text = "officers a b c\nrule a and b\ncome a\nstand a for b\nopen\ndie a\ncome b"

    def test_answers_k_and_only_the_first_k_stay(self):
        lines = self.text.split("\n")
        for k in range(6):
            self.assertEqual(run(file(self.text), undo(k), TOLD)[1:], [[k], [3, k, 1, 2]])
            self.assertEqual(one_text(file(self.text), undo(k)), "\n".join(lines[:2 + k]))

    def test_all_sixty(self):
        chest = file("officers a\nrule anybody\n" + "\n".join(["open"] * 60))
        self.assertEqual(run(chest, undo(60), undo(60), undo(59), undo(60))[1:], [[60], [60], [59], [-5]])

    def test_what_was_undone_has_not_been(self):
        self.assertEqual(run(file(self.text), undo(3), event("go a"), event("open"))[1:], [[3], [4], [-1000]])
        self.assertEqual(run(file(self.text), undo(4), event("come a"), undo(1), event("come a"), event("go a"))[1:],
                         [[4], [-1005], [1], [-1005], [2]])
        self.assertEqual(run(file(self.text), undo(1), event("open"), event("stand a for b"), event("open"))[1:],
                         [[1], [-1000], [2], [3]])
        self.assertEqual(run(file(self.text), undo(0), event("die b"), event("stand a for b"))[1:], [[0], [1], [-1012]])

    def test_events_do_not_come_back(self):
        self.assertEqual(run(file(self.text), undo(2), undo(3), event("come c"), undo(3), undo(4))[1:],
                         [[2], [-5], [3], [3], [-5]])
        self.assertEqual(one_text(file(self.text), undo(1), event("come c")), "officers a b c\nrule a and b\ncome a\ncome c")

    def test_officers_and_rule_stay(self):
        self.assertEqual(run(file(self.text), undo(0), LEAST, may(3), may(4))[1:], [[0], [1, 3], [1], [0]])

    def test_event_undo_and_file_one_behind_another(self):
        self.assertEqual(
            run(event("come a"), file(self.text), undo(2), event("open"), event("come b"), undo(3), TEXT,
                file("officers b\nrule b\ncome b"), event("open"), undo(1), event("come b"), event("go b"), undo(0),
                event("come b"), TOLD)[:6], [[-1005], [3, 5], [2], [3], [4], [3]])
        self.assertEqual(
            run(file(self.text), undo(2), file("officers b\nrule b\ncome b"), event("open"), undo(1), event("come b"),
                event("go b"), undo(0), event("come b"), TOLD)[2:],
            [[1, 1], [2], [1], [-1005], [2], [0], [1], [1, 1, 1, 1]])

    def test_a_refused_file_leaves_the_events(self):
        self.assertEqual(run(file(self.text), file("officers a\nrule b"), event("come a"), event("go b"), undo(6), undo(5))[1:],
                         [[-1016], [-1005], [6], [6], [5]])


if __name__ == "__main__":
    unittest.main()
