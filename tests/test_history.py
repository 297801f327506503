"""now, behind and opened: who is there, is dead and acts, whether these may, and when it was opened."""

import unittest

from support import (
    CLEAR, GREATEST_NUMBER, LEAST_NUMBER, NOW, OPENED, TEXT, TOLD, behind, event, file, last, mays_behind, officers,
    rule, ruled, run, undo)

LINES = ("come a", "open", "come b", "stand a for c", "open", "go a", "stand b for a", "open", "die c", "die b", "come a",
         "open")
# Behind none of these events, behind the first one, and so on.
STATES = ([0, 0, 0, 0, 0], [1, 0, 1, 1, 0], [1, 0, 1, 1, 1], [3, 0, 3, 1, 1], [3, 0, 7, 1, 1], [3, 0, 7, 1, 2],
          [2, 0, 2, 0, 2], [2, 0, 7, 1, 2], [2, 0, 7, 1, 3], [2, 4, 7, 1, 3], [0, 6, 0, 0, 3], [1, 6, 5, 1, 3],
          [1, 6, 5, 1, 4])
STORY = file("\n".join(("officers a b c\nrule a",) + LINES))


def now(text, *events):
    """now's answer behind these events of officers a to f with this rule."""
    return last(ruled(officers(6), text), *[event(line) for line in events], NOW)


class Now(unittest.TestCase):
    def test_at_the_beginning(self):
        self.assertEqual(last(NOW), [0, 0, 0, 0, 0])
        self.assertEqual(last(ruled("", "anybody"), NOW), [0, 0, 0, 1, 0])
        self.assertEqual(now("a"), [0, 0, 0, 0, 0])
        self.assertEqual(now("anybody"), [0, 0, 0, 1, 0])

    def test_come_and_go(self):
        self.assertEqual(now("a", "come a"), [1, 0, 1, 1, 0])
        self.assertEqual(now("a", "come f"), [32, 0, 32, 0, 0])
        self.assertEqual(now("a", "come a", "come c"), [5, 0, 5, 1, 0])
        self.assertEqual(now("a", "come a", "come c", "go a"), [4, 0, 4, 0, 0])
        self.assertEqual(now("nobody", *["come " + name for name in "abcdef"]), [63, 0, 63, 0, 0])

    def test_die(self):
        self.assertEqual(now("a", "die a"), [0, 1, 0, 0, 0])
        self.assertEqual(now("a", "come a", "come b", "die a"), [2, 1, 2, 0, 0])
        self.assertEqual(now("anybody", *["die " + name for name in "abcdef"]), [0, 63, 0, 1, 0])

    def test_stand(self):
        self.assertEqual(now("b", "stand a for b"), [0, 0, 0, 0, 0])
        self.assertEqual(now("b", "stand a for b", "come a"), [1, 0, 3, 1, 0])
        self.assertEqual(now("b", "stand a for b", "come a", "go a"), [0, 0, 0, 0, 0])
        self.assertEqual(now("b", "come a", "stand a for b", "die a"), [0, 1, 0, 0, 0])

    def test_for_one_who_dies(self):
        self.assertEqual(now("b", "come a", "stand a for b", "die b"), [1, 2, 3, 1, 0])
        self.assertEqual(now("c", "come a", "stand a for b", "stand b for c"), [1, 0, 7, 1, 0])
        self.assertEqual(now("c", "come a", "stand a for b", "stand b for c", "die b"), [1, 2, 3, 0, 0])
        self.assertEqual(now("c", "come a", "stand a for b", "stand b for c", "die c"), [1, 4, 7, 1, 0])

    def test_through_all_six(self):
        chain = [f"stand {'abcdef'[n]} for {'abcdef'[n + 1]}" for n in range(5)]
        self.assertEqual(now("f", *chain, "come a"), [1, 0, 63, 1, 0])
        self.assertEqual(now("f", *reversed(chain), "come b"), [2, 0, 62, 1, 0])
        self.assertEqual(now("f", *chain, "stand f for a", "come d"), [8, 0, 63, 1, 0])

    def test_open(self):
        self.assertEqual(now("a", "come a", "open"), [1, 0, 1, 1, 1])
        self.assertEqual(now("a", "come a", "open", "open", "go a"), [0, 0, 0, 0, 2])
        self.assertEqual(now("anybody", *["open"] * 60), [0, 0, 0, 1, 60])

    def test_a_refused_event_changes_nothing(self):
        self.assertEqual(now("b", "come a", "open", "come a", "go b", "stand a for a", "come"), [1, 0, 1, 0, 0])

    def test_those_who_act_are_asked_by_the_rule(self):
        text = "a and b or c and ( d or 2 of ( a e f ) )"
        may = mays_behind(ruled(officers(6), text))
        for company in range(64):
            come = ["come " + "abcdef"[n] for n in range(6) if company >> n & 1]
            self.assertEqual(now(text, *come), [company, 0, company, int(company in may), 0])

    def test_behind_undo_and_clear(self):
        for k in range(len(LINES) + 1):
            self.assertEqual(run(STORY, undo(k), NOW)[1:], [[k], STATES[k]])
        self.assertEqual(run(STORY, CLEAR, NOW, OPENED)[1:], [[0], [0, 0, 0, 0, 0], [0]])
        self.assertEqual(run(STORY, undo(1), event("go a"), NOW)[1:], [[1], [2], [0, 0, 0, 0, 0]])

    def test_behind_another_file(self):
        self.assertEqual(run(STORY, file("officers x\nrule x\ncome x"), NOW)[1:], [[1, 1], [1, 0, 1, 1, 0]])
        self.assertEqual(run(STORY, file("officers x\nrule x\ngo x"), NOW)[1:], [[-1021], STATES[-1]])

    def test_behind_a_rule_that_was_set(self):
        self.assertEqual(run(STORY, undo(0), rule("b"), event("come b"), NOW, event("open"), NOW)[2:],
                         [[0], [1], [2, 0, 2, 1, 0], [2], [2, 0, 2, 1, 1]])


class Behind(unittest.TestCase):
    def test_each_number_of_events(self):
        self.assertEqual(last(STORY, NOW), STATES[-1])
        self.assertEqual(run(STORY, *[behind(k) for k in range(len(LINES) + 1)])[1:], list(STATES))

    def test_behind_none_and_behind_all(self):
        self.assertEqual(run(behind(0), ruled("a", "anybody"), behind(0), event("come a"), behind(0), behind(1), NOW),
                         [[0, 0, 0, 0, 0], [1, 0], [0, 0, 0, 1, 0], [1], [0, 0, 0, 1, 0], [1, 0, 1, 1, 0], [1, 0, 1, 1, 0]])

    def test_sixty_events(self):
        chest = file("officers a\nrule anybody" + "\nopen" * 60)
        self.assertEqual(run(chest, *[behind(k) for k in range(61)], behind(61))[1:],
                         [[0, 0, 0, 1, k] for k in range(61)] + [[-3]])

    def test_numbers_out_of_range_then_more_than_there_are(self):
        for k in (LEAST_NUMBER, -1, 61, 62, GREATEST_NUMBER):
            self.assertEqual(run(STORY, behind(k), CLEAR, behind(k))[1:], [[-3], [0], [-3]])
        for k in (len(LINES) + 1, 59, 60):
            self.assertEqual(last(STORY, behind(k)), [-5])
        for k in (1, 60):
            self.assertEqual(last(behind(k)), [-5])

    def test_it_changes_nothing(self):
        views = [TEXT, TOLD, NOW, OPENED]
        before = run(STORY, *views)[1:]
        self.assertEqual(run(STORY, behind(0), behind(3), behind(99), behind(40), *views)[5:], before)
        self.assertEqual(run(STORY, behind(2), event("open"), behind(2))[1:], [STATES[2], [13], STATES[2]])

    def test_after_undo_and_clear(self):
        self.assertEqual(run(STORY, undo(4), behind(4), behind(5), behind(2), event("die a"), behind(5))[1:],
                         [[4], STATES[4], [-5], STATES[2], [5], [2, 1, 2, 0, 1]])
        self.assertEqual(run(STORY, CLEAR, behind(0), behind(1))[2:], [[0, 0, 0, 0, 0], [-5]])


class Opened(unittest.TestCase):
    def test_the_events_by_which_it_was_opened(self):
        self.assertEqual(last(STORY, OPENED), [4, 1, 4, 7, 11])
        self.assertEqual(last(file("officers a\nrule anybody\nopen\nopen\ncome a\nopen"), OPENED), [3, 0, 1, 3])

    def test_none(self):
        self.assertEqual(last(OPENED), [0])
        self.assertEqual(last(ruled("a b", "anybody"), OPENED), [0])
        self.assertEqual(last(ruled("a b", "a"), event("come a"), event("come b"), OPENED), [0])

    def test_sixty(self):
        self.assertEqual(last(file("officers\nrule anybody" + "\nopen" * 60), OPENED), [60] + list(range(60)))

    def test_an_officer_called_open_did_not_open_it(self):
        self.assertEqual(last(file("officers open\nrule open\ncome open\nopen\ngo open\ndie open"), OPENED), [1, 1])

    def test_a_refused_open_is_none(self):
        self.assertEqual(run(ruled("a", "a"), event("open"), OPENED, event("come a"), event("open"), OPENED)[1:],
                         [[-1000], [0], [1], [2], [1, 1]])

    def test_after_undo_and_clear(self):
        opened = [k for k, line in enumerate(LINES) if line == "open"]
        for k in range(len(LINES) + 1):
            kept = [number for number in opened if number < k]
            self.assertEqual(last(STORY, undo(k), OPENED), [len(kept)] + kept)
        self.assertEqual(run(STORY, undo(2), event("come b"), event("open"), OPENED)[1:], [[2], [3], [4], [2, 1, 3]])
        self.assertEqual(last(STORY, CLEAR, OPENED), [0])

    def test_only_when_those_who_acted_might_open_it(self):
        may = mays_behind(STORY)
        for k in last(STORY, OPENED)[1:]:
            before, after = run(STORY, behind(k), behind(k + 1))[1:]
            self.assertIn(before[2], may)
            self.assertEqual(before[3], 1)
            self.assertEqual(after, before[:4] + [before[4] + 1])

    def test_just_where_now_tells_that_they_may(self):
        events = [event(line) for line in LINES]
        for k in range(len(LINES) + 1):
            before, answer = run(STORY, undo(k), NOW, event("open"))[2:]
            self.assertEqual(answer, [k + 1] if before[3] == 1 else [-1000])
        self.assertEqual(run(ruled("a b c", "a"), *events)[1:], [[k + 1] for k in range(len(LINES))])


if __name__ == "__main__":
    unittest.main()
