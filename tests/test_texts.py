"""Files' texts: what can stand where, the place of a fault, and the one text."""

import unittest

from support import as_bytes, event, file, last, listed, look, one_text, ruled, run, undo, TOLD

THREE = "officers a b c\nrule "


class Faults(unittest.TestCase):
    def fault(self, text, place):
        """look and file both find the fault at this place."""
        self.assertEqual(run(look(text), file(text)), [[1, place], [-1000 - place]], text)

    def fault_at(self, text):
        """The fault is where a ^ stands in the text, ahead of the word."""
        self.fault(text.replace("^", "", 1), text.index("^"))

    def stands(self, text):
        self.assertEqual(last(look(text)), [0], text)
        self.assertGreaterEqual(last(file(text))[0], 0, text)

    def test_the_beginning(self):
        for text in ("^", "^rule a", "^officer a\nrule a", "^Officers a\nrule a", "^officersa\nrule a", "^\x00",
                     "^\xff", "^1", "^(", "^come a"):
            self.fault_at(text)

    def test_words_missing_at_the_end(self):
        for text in ("officers", "officers a", "officers a b", "officers a\nrule", THREE + "a or", THREE + "a and",
                     THREE + "(", THREE + "( a", THREE + "( a or", THREE + "2", THREE + "2 of", THREE + "2 of (",
                     THREE + "2 of ( a", THREE + "2 of ( a b", THREE + "2 of ( c", THREE + "a\ncome", THREE + "a\ngo",
                     THREE + "a\ndie", THREE + "a\nstand", THREE + "a\nstand a", THREE + "a\nstand a for"):
            self.fault(text, len(text))

    def test_blanks_and_line_ends_at_the_edges(self):
        for text in ("^ officers a\nrule a", "^\nofficers a\nrule a", "^ ", "^\n", "^  ", "^\n\n"):
            self.fault_at(text)
        for text in ("officers ", "officers a\n", "officers a\nrule ", "officers a\nrule a ", "officers a\nrule a\n",
                     "officers a\nrule a\ncome a ", "officers a\nrule a\ncome a\n", "officers a\nrule a\ncome "):
            self.fault(text, len(text))

    def test_two_blanks_or_line_ends_one_behind_the_other(self):
        for text in ("officers ^ a\nrule a", "officers a ^ b\nrule a", "officers a\nrule ^ a",
                     "officers a\nrule a ^ or a", "officers a\nrule a or ^ a", "officers a\n^\nrule a",
                     "officers a\nrule a\n^\ncome a", "officers a\nrule a\ncome ^ a", "officers a\nrule a\ncome a\n^\ngo a",
                     "officers a b\nrule a\nstand a ^ for b", "officers a b\nrule 1 of ( a ^ b )"):
            self.fault_at(text)

    def test_a_blank_beside_a_line_end(self):
        for text in ("officers a ^\nrule a", "officers a\n^ rule a", "officers ^\nrule nobody",
                     "officers a\nrule a ^\ncome a", "officers a\nrule a\n^ come a", "officers a\nrule a\ncome a ^\ngo a",
                     "officers a\nrule a\ncome a\n^ go a"):
            self.fault_at(text)

    def test_a_line_end_where_another_word_is_due(self):
        for text in ("officers a\nrule^\na", "officers a\nrule a or^\na", "officers a\nrule (^\na )",
                     "officers a\nrule ( a^\n)", "officers a\nrule 1^\nof ( a )", "officers a\nrule 1 of ( a^\n)",
                     "officers a\nrule a\ncome^\na", "officers a b\nrule a\nstand a^\nfor b"):
            self.fault_at(text)

    def test_the_place_is_that_of_the_first_fault(self):
        self.fault_at("officers a ^A b B\nrule c or  d\n")
        self.fault_at("officers a\nrule ^b or  c ")

    def test_other_white_signs_are_no_blanks(self):
        for text in ("^officers\ta\nrule a", "officers ^a\r\nrule a", "officers a\nrule ^a\r", "officers ^a\x00\nrule a",
                     "officers ^\xe9\nrule nobody", "officers ^a?\nrule nobody"):
            self.fault_at(text)

    def test_names(self):
        for name in ("a", "z", "abcdefghijkl", "officers", "rule", "come", "go", "die", "stand", "for", "open", "ofs",
                     "an", "anybodys"):
            self.stands(f"officers {name}\nrule {name}")
        for name in ("abcdefghijklm", "and", "or", "of", "anybody", "nobody", "A", "aB", "a1", "1", "(", ")", "a-b",
                     "a(", "a`", "{a"):
            self.fault_at(f"officers ^{name}\nrule nobody")
            self.fault_at(f"officers b ^{name}\nrule nobody")

    def test_names_are_unlike(self):
        self.fault_at("officers a b ^a\nrule a")
        self.fault_at("officers a ^a\nrule a")
        self.stands("officers a aa aaa\nrule a")

    def test_at_most_six_names(self):
        self.stands("officers a b c d e f\nrule f")
        self.fault_at("officers a b c d e f ^g\nrule f")

    def test_no_names(self):
        self.stands("officers\nrule nobody")
        self.stands("officers\nrule anybody and ( nobody or anybody )\nopen")
        self.fault_at("officers\nrule ^a")
        self.fault_at("officers\nrule 1 of ( ^)")
        self.fault_at("officers\nrule nobody\ncome ^a")

    def test_the_word_rule(self):
        self.fault_at("officers a\n^a")
        self.fault_at("officers a\n^rules a")
        self.fault_at("officers a\n^officers a")
        self.fault_at("officers a\n^\nrule a")

    def test_where_a_rule_is_due(self):
        for word in ("d", "and", "or", "of", ")", "0", "7", "come", "x1", "A", "Anybody", "rule", "\n", "?"):
            self.fault_at(THREE + "^" + word)
            self.fault_at(THREE + "a or ^" + word)
            self.fault_at(THREE + "a and ^" + word + " a")
            self.fault_at(THREE + "( ^" + word + " )")

    def test_where_a_join_is_due(self):
        for word in ("a", "anybody", "(", ")", "2", "of", "rule", "come"):
            self.fault_at(THREE + "a ^" + word)
            self.fault_at(THREE + "( a or b ) ^" + word + " a")
            self.fault_at(THREE + "1 of ( a ) ^" + word)
            self.fault_at(THREE + "anybody ^" + word)
        for word in ("a", "anybody", "(", "2", "of"):
            self.fault_at(THREE + "( a ^" + word)

    def test_numbers(self):
        six = "officers a b c d e f\nrule "
        for number in "123456":
            self.stands(six + number + " of ( a b c d e f )")
        for number in ("0", "7", "8", "9", "10", "16", "01", "06", "00", "1a", "-1", "+1", "1.0", "", "11"):
            self.fault_at(six + "^" + number + " of ( a b c d e f )")

    def test_of_and_its_bracket(self):
        for text in ("2 ^a", "2 ^( a b )", "2 of ^a b", "2 of ^)", "2 of ( ^)", "2 of ( ^( a b )", "2 of ( ^2",
                     "2 of ( ^anybody", "2 of ( a ^and b )", "2 of ( a ^or b )", "2 of ( a ^, b )", "2 ^Of ( a b )",
                     "2 of ( a ^of", "2 of ^\n", "2 of ( a b ^\n", "2 of ( ^d )"):
            self.fault_at(THREE + text)

    def test_officers_behind_of_stand_in_order_and_once(self):
        for text in ("2 of ( b ^a )", "1 of ( c ^b )", "2 of ( a ^a )", "1 of ( b ^b )", "2 of ( a c ^b )",
                     "3 of ( a b ^b c )", "1 of ( a b c ^a )"):
            self.fault_at(THREE + text)
        for text in ("1 of ( a )", "1 of ( c )", "2 of ( a c )", "2 of ( b c )", "1 of ( a b c )", "3 of ( a b c )"):
            self.stands(THREE + text)

    def test_too_few_officers_behind_of(self):
        for text in ("2 of ( a ^)", "3 of ( a b ^)", "3 of ( a c ^)", "4 of ( a b c ^)", "6 of ( a b c ^)",
                     "2 of ( c ^)", "2 of ( a ^) or b"):
            self.fault_at(THREE + text)

    def test_eight_brackets_and_nine(self):
        self.stands(THREE + "( " * 8 + "a" + " )" * 8)
        self.fault_at(THREE + "( " * 8 + "^( a" + " )" * 9)
        self.stands(THREE + "( a or " * 8 + "b" + " )" * 8 + " and " + "( " * 8 + "a" + " )" * 8)
        self.fault_at(THREE + "( a and " * 8 + "^( b )" + " )" * 8)
        self.fault_at(THREE + "( a ) or " * 9 + "( " * 8 + "a or ^( b" + " )" * 9)

    def test_brackets_behind_of_are_not_counted(self):
        self.stands(THREE + "( " * 8 + "2 of ( a b )" + " )" * 8)
        self.stands(THREE + "( " * 8 + "2 of ( a b ) or 1 of ( c )" + " )" * 8)
        self.fault_at(THREE + "1 of ( a ) or " + "( " * 8 + "2 of ( a b ) and ^( c" + " )" * 9)

    def test_brackets_are_closed(self):
        self.fault_at(THREE + "( a ) ^)")
        self.fault_at(THREE + "a ^)")
        self.fault_at(THREE + "( ( a )^\ncome a")
        self.fault_at(THREE + "( ^)")
        self.fault_at(THREE + "( a or ^)")

    def test_where_an_event_is_due(self):
        for word in ("a", "comes", "Come", "opens", "for", "and", "officers", "rule", "1", "(", ")"):
            self.fault_at(THREE + "a\n^" + word)
            self.fault_at(THREE + "a\ncome a\n^" + word + " a")

    def test_where_an_events_officer_is_due(self):
        for word in ("d", "for", "A", "aa", "anybody", "1", "(", "\n"):
            for kind in ("come", "go", "die", "stand", "stand a for"):
                self.fault_at(f"{THREE}a\n{kind} ^{word}".replace(" ^\n", "^\n"))

    def test_where_for_is_due(self):
        for word in ("b", "fo", "of", "For", "stand"):
            self.fault_at(THREE + "a\nstand a ^" + word + " b")

    def test_where_an_event_has_ended(self):
        for word in ("a", "come", "for", "and", "open"):
            self.fault_at(THREE + "a\ncome a ^" + word)
            self.fault_at(THREE + "a\nstand a for b ^" + word)
            self.fault_at(THREE + "anybody\nopen ^" + word)

    def test_where_an_event_may_not_be(self):
        for text in ("come a\ncome ^a", "go ^a", "come a\ngo a\ngo ^a", "die a\ndie ^a", "die a\ncome ^a", "die a\ngo ^a",
                     "stand a for ^a", "stand a for b\nstand a for ^b", "die a\nstand a for ^b", "die b\nstand a for ^b",
                     "^open", "come b\n^open", "come a\ngo a\n^open", "come a\ndie a\n^open", "come a\ndie a\ngo ^a"):
            self.fault_at(THREE + "a\n" + text)

    def test_a_word_that_can_not_stand_comes_ahead_of_an_event_that_may_not_be(self):
        self.fault_at(THREE + "a\ndie a\nstand a ^to b")
        self.fault_at(THREE + "a\ndie a\nstand a for ^d")
        self.fault(THREE + "a\ndie a\nstand a for", len(THREE + "a\ndie a\nstand a for"))

    def test_names_that_are_words_of_events(self):
        self.stands("officers stand for open\nrule open and for\nstand for for open\ncome for\nopen\ndie open\ngo for")
        self.fault_at("officers for come\nrule come\nstand for for ^for")
        self.fault_at("officers rule officers\nrule rule and officers\ncome rule\n^open")

    def test_sixty_events_and_one_more(self):
        sixty = THREE + "a\n" + "\n".join(["come a", "go a"] * 30)
        self.stands(sixty)
        self.fault_at(sixty + "\n^come a")
        self.fault_at(sixty + "\n^open")
        self.fault_at(sixty + "\n^wrong")
        self.fault_at(sixty + "\n^")
        self.fault_at(sixty + " ^\ncome a")
        opened = THREE + "anybody\n" + "\n".join(["open"] * 60)
        self.stands(opened)
        self.fault_at(opened + "\n^open")

    def test_answers_of_look(self):
        self.assertEqual(last(look("officers\nrule nobody")), [0])
        self.assertEqual(last(look("officers\nrule x")), [1, 14])
        self.assertEqual(last(look("")), [1, 0])

    def test_look_asks_for_a_file_and_not_for_what_is_there(self):
        self.assertEqual(run(ruled("a b", "a"), look("a"), look("come a"), look("officers x\nrule a"))[1:],
                         [[1, 0], [1, 0], [1, 16]])


class Files(unittest.TestCase):
    def test_answers_how_many_officers_and_events(self):
        for count in range(7):
            text = " ".join(["officers"] + list("abcdef"[:count])) + "\nrule anybody"
            self.assertEqual(last(file(text)), [count, 0])
            self.assertEqual(last(file(text + "\nopen" * 60)), [count, 60])

    def test_a_file_takes_the_place_of_what_was_there(self):
        first = file("officers a b c\nrule anybody\ncome a\ncome b\nopen")
        second = "officers x y\nrule x or y\ncome y"
        self.assertEqual(run(first, file(second), TOLD)[1:], [[2, 1], [2, 1, 2, 1]])
        self.assertEqual(one_text(first, file(second)), second)
        self.assertEqual(last(first, file(second), event("come a")), [-1005])
        self.assertEqual(last(first, file(second), event("come x")), [2])

    def test_a_file_begins_with_nobody_there(self):
        first = file("officers a b\nrule a and b\ncome a\ndie b")
        self.assertEqual(run(first, file("officers a b\nrule a and b\ncome a\ncome b\nopen"))[1], [2, 3])


class OneText(unittest.TestCase):
    def tells(self, rule, told):
        self.assertEqual(one_text(file(THREE + rule)), THREE + told)
        self.assertEqual(one_text(file(THREE + told)), THREE + told)

    def test_as_told(self):
        for rule in ("a", "anybody", "nobody", "2 of ( a b c )", "1 of ( c )", "3 of ( a b c )", "a or b", "a and b",
                     "a or b or c", "a and b and c", "a and b or c", "a or b and c", "a and b or b and c",
                     "a or a or a", "nobody or anybody and nobody"):
            self.tells(rule, rule)

    def test_brackets_that_stay(self):
        for rule in ("( a or b ) and c", "a and ( b or c )", "a and ( b and c )", "a or ( b or c )",
                     "( a or b ) and ( b or c )", "a and ( b and ( c and a ) )", "a or ( b or ( c or a ) )",
                     "a or ( b or c and a )", "a or ( b and c or a )", "a and ( b or c ) and a",
                     "a or ( b or c ) or a", "a or b and ( c and a )", "a or ( b or a and ( b or c ) )",
                     "a and ( 2 of ( a b ) and c )"):
            self.tells(rule, rule)

    def test_brackets_that_go(self):
        for rule, told in (
                ("( a )", "a"), ("( ( a ) )", "a"), ("( a or b )", "a or b"), ("( a and b )", "a and b"),
                ("( a and b ) and c", "a and b and c"), ("( a or b ) or c", "a or b or c"),
                ("( a and b ) or c", "a and b or c"), ("a or ( b and c )", "a or b and c"),
                ("( a ) and ( b )", "a and b"), ("( a ) or ( b )", "a or b"), ("a and ( b )", "a and b"),
                ("a or ( 2 of ( a b ) )", "a or 2 of ( a b )"), ("a and ( 2 of ( a b ) )", "a and 2 of ( a b )"),
                ("( anybody ) and ( nobody )", "anybody and nobody"),
                ("( ( a or b ) ) and c", "( a or b ) and c"), ("a and ( ( b and c ) )", "a and ( b and c )"),
                ("( ( a and b ) and c ) and a", "a and b and c and a"),
                ("( a or b ) or ( c or a )", "a or b or ( c or a )"),
                ("( a and b ) and ( c and a )", "a and b and ( c and a )"),
                ("( a and b ) or ( b and c )", "a and b or b and c"),
                ("( " * 8 + "a" + " )" * 8, "a")):
            self.tells(rule, told)

    def test_the_whole_file(self):
        text = ("officers anna otto c\nrule ( anna or otto ) and c\ncome anna\nstand anna for c\nopen\n"
                "die c\ngo anna\ncome otto\nstand otto for anna")
        self.assertEqual(one_text(file(text)), text)
        self.assertEqual(one_text(file("officers\nrule anybody\nopen\nopen")), "officers\nrule anybody\nopen\nopen")

    def test_events_that_were_added_and_undone(self):
        text = "officers a b\nrule a\ncome a"
        self.assertEqual(one_text(file(text), event("stand a for b"), event("open")), text + "\nstand a for b\nopen")
        self.assertEqual(one_text(file(text), event("open"), undo(0)), "officers a b\nrule a")

    def test_eight_brackets_that_stay(self):
        rule = "a and ( " * 8 + "b or c" + " )" * 8
        self.tells(rule, rule)

    def test_very_many_parts(self):
        for word in ("or", "and"):
            rule = f" {word} ".join(["a"] * 320)
            self.tells(rule, rule)
            self.tells(f"( {rule} )", rule)

    def test_the_one_text_may_be_longer_than_a_text_that_is_handed_in(self):
        text = "officers a bb\nrule " + "a or " * 396 + "a"
        self.assertEqual(len(text), 2000)
        added = [event("come a"), event("open"), event("go a")]
        self.assertEqual(one_text(file(text), *added), text + "\ncome a\nopen\ngo a")


class Events(unittest.TestCase):
    def test_the_text_is_one_event(self):
        chest = ruled("a b", "a")
        for text, place in (("", 0), (" come a", 0), ("come a ", 7), ("come a\n", 6), ("\ncome a", 0), ("come  a", 5),
                            ("come", 4), ("come ", 5), ("come c", 5), ("come a b", 7), ("come a\ngo a", 6), ("arrive a", 0),
                            ("stand", 5), ("stand a", 7), ("stand a b", 8), ("stand a for", 11), ("stand a for c", 12),
                            ("stand a for a", 12), ("stand c for a", 6), ("open", 0), ("open ", 0), ("go a", 3),
                            ("officers a\nrule a", 0), ("rule a", 0), ("a", 0), ("die\na", 3)):
            self.assertEqual(last(chest, event(text)), [-1000 - place], text)

    def test_open_with_more_behind_it(self):
        chest = ruled("a", "anybody")
        self.assertEqual(last(chest, event("open")), [1])
        for text, place in (("open ", 5), ("open\n", 4), ("open a", 5), ("open open", 5)):
            self.assertEqual(last(chest, event(text)), [-1000 - place], text)

    def test_answers_how_many_there_are(self):
        chest = file("officers a b\nrule a\ncome a")
        self.assertEqual(run(chest, event("come b"), event("open"), event("die b"), event("go a"), TOLD)[1:],
                         [[2], [3], [4], [5], [2, 5, 1, 1]])

    def test_sixty_events_and_one_more(self):
        chest = file("officers a\nrule anybody\n" + "\n".join(["open"] * 58))
        self.assertEqual(run(chest, event("come a"), event("open"), event("open"), event("go a"), event(""),
                             event("wrong"), undo(59), event("go a"), event("open"))[1:],
                         [[59], [60], [-1000], [-1000], [-1000], [-1000], [59], [60], [-1000]])
        self.assertEqual(last(chest, event("open"), event("open"), listed(4, as_bytes("open") + [256])), [-1])


if __name__ == "__main__":
    unittest.main()
