"""Many made-up lists of calls, the same ones each time, held against the second telling in model.py."""

import random
import unittest

import model
from chestkeys.chest import answers
from support import (
    FORBIDDEN, HINDER, IDLE, KEYS, LEAST, LOCKS, NOW, OPENED, POWER, SWINGS, TOLD, TRADE, WITH_LIST, as_bytes, file, last,
    listed, one_text, run, weights)

WORDS = ("officers rule and or of anybody nobody ( ) 0 1 2 3 4 5 6 7 01 a b c d e f g come go die stand for open x "
         "abcdefghijklm A").split() + ["", "\n", "\n"]
NUMBERS = [-2 ** 63, -1, 0, 1, 2, 3, 5, 8, 15, 31, 32, 60, 61, 63, 64, 2 ** 63 - 1]
OFTEN = (1, 1, 2, 2, 4, 4, 4, 4, 4, 4, 7, 12, 16, 18, 20, 22, 22, 23, 25)


def join(words):
    text = ""
    for k, word in enumerate(words):
        beside = k > 0 and word != "\n" and words[k - 1] != "\n"
        text += (" " if beside else "") + word
    return text


class Maker:
    def __init__(self, seed):
        self.chance = random.Random(seed)

    def rule(self, names, depth):
        kind = self.chance.randrange(10)
        if depth > 0 and kind < 5:
            parts = [self.rule(names, depth - 1) for k in range(self.chance.choice((1, 2, 2, 3)))]
            joined = parts[0]
            for part in parts[1:]:
                joined = joined + [self.chance.choice(("and", "or"))] + part
            return ["("] + joined + [")"] if self.chance.random() < 0.7 else joined
        if kind == 5 and names:
            chosen = sorted(self.chance.sample(range(len(names)), self.chance.randint(1, len(names))))
            number = self.chance.randint(1, len(chosen))
            return [str(number), "of", "("] + [names[n] for n in chosen] + [")"]
        return [self.chance.choice(names + ["anybody", "nobody"][:2 if kind == 6 or not names else 0])]

    def event(self, names):
        kind = self.chance.choice(("come", "come", "go", "die", "stand", "stand", "open"))
        if kind == "open" or not names:
            return ["open"]
        first = self.chance.choice(names)
        return [kind, first, "for", self.chance.choice(names)] if kind == "stand" else [kind, first]

    def possible_event(self, state):
        """An event that may be, or None."""
        for attempt in range(20):
            words = self.event(state["names"])
            place, behind = model.read(" ".join(words), state, "event")
            if place is None:
                return words, behind
        return None

    def file(self):
        names = self.chance.sample(["a", "b", "c", "d", "e", "f", "anna", "open", "for"], self.chance.randint(0, 6))
        words = ["officers"] + names + ["\n", "rule"] + self.rule(names, self.chance.randint(0, 5))
        place, state = model.read(join(words), model.START, "officers")
        for k in range(self.chance.choice((0, 0, 2, 6, 20)) if state else 0):
            found = self.possible_event(state)
            if found:
                words, state = words + ["\n"] + found[0], found[1]
        return words

    def spoiled(self, words):
        words = list(words)
        for k in range(self.chance.choice((0, 0, 1, 1, 2))):
            place = self.chance.randrange(len(words) + 1)
            kind = self.chance.randrange(4)
            if kind == 0:
                words.insert(place, self.chance.choice(WORDS))
            elif kind == 1:
                words[place:place + 1] = [self.chance.choice(WORDS)]
            elif kind == 2:
                words[place:place + 1] = []
            else:
                words = words[:place]
        text = [ord(sign) for sign in join(words)]
        if self.chance.random() < 0.1 and text:
            text[self.chance.randrange(len(text))] = self.chance.choice((0, 9, 10, 32, 40, 41, 48, 97, 255, 256, -1))
        return text

    def call(self, names):
        number = self.chance.choice(tuple(range(27)) + OFTEN)
        return number, self.given(number, names)

    def given(self, number, names):
        if number in (1, 2):
            return self.spoiled(self.file())
        if number == 4:
            return self.spoiled(self.event(names))
        if number in (22, 23):
            return self.spoiled(self.rule(names, self.chance.randint(0, 4)))
        if number == 12:
            return [self.chance.choice(NUMBERS[2:10]) for k in range(self.chance.choice((0, 1, 2, 3, 100, 101)))]
        if number == 16:
            return [self.chance.choice((-1, 0, 0, 0, 1, 1, 2, 3, 4, 5, 6)) for k in range(2)]
        if number == 19:
            # The model looks at all weights there are: fewer of them where there are many officers.
            return [self.chance.choice((-1, 0, 1, 2, 3, 4, 5, 6)[:8 if len(names) < 4 else 4])]
        if number == 20:
            count = self.chance.choice((len(names), len(names), len(names), 0, 1, 6, 7))
            return [self.chance.choice((0, 1, 1, 1, 2, 2, 3, 4, 1000, 1001, -1)[:self.chance.choice((6, 9, 11))])
                    for k in range(count)]
        if number in (5, 7, 18, 25):
            return [self.chance.choice(NUMBERS)]
        return []


class AgainstModel(unittest.TestCase):
    def test_many_lists_of_calls(self):
        kinds = {}
        for seed in range(400):
            maker = Maker(seed)
            reference = model.Model()
            calls, expected, calls_sought = [], [], 0
            for k in range(40):
                number, given = maker.call(reference.state["names"])
                if number in (19, 21) and calls_sought == 6:
                    continue
                calls_sought += number in (19, 21)
                calls += [number] + ([len(given)] if number in WITH_LIST else []) + given
                answer = reference.answer(number, given)
                kinds[number, answer[0] if answer[0] > -1000 else -1000] = True
                expected += [len(answer)] + answer
            self.assertEqual(answers(calls), expected, seed)
        self.assertEqual({kind[0] for kind in kinds}, set(range(27)))
        for number, answer in ((1, -1000), (1, -1), (4, -1000), (4, -1), (5, -3), (5, -5), (7, -3), (7, -5), (12, -4),
                               (16, -3), (16, -5), (18, -3), (18, -5), (19, -3), (20, -4), (22, -1), (22, -6),
                               (22, -1000), (23, -1), (23, -1000), (25, -3), (25, -5), (2, 0), (2, 1), (7, 0), (7, 1),
                               (12, 0), (12, 1), (16, 0), (16, 1), (19, 0), (19, 1), (20, 0), (20, 1), (21, 0), (21, 1),
                               (22, 0), (23, 0), (23, 1), (26, 2)):
            self.assertIn((number, answer), kinds)

    def test_every_beginning_of_some_files(self):
        maker = Maker(1000)
        for k in range(60):
            text = as_bytes(join(maker.file()))
            for end in range(len(text)):
                self.assertEqual(last(listed(2, text[:end])), model.Model().answer(2, text[:end]))

    def test_every_beginning_of_some_rules(self):
        maker = Maker(1500)
        head = "officers a b c d\nrule a or b"
        for k in range(60):
            text = as_bytes(join(maker.rule(list("abcd"), 4)))
            for end in range(len(text)):
                reference = model.Model()
                reference.answer(1, as_bytes(head))
                given = text[:end]
                self.assertEqual(run(file(head), listed(23, given), listed(22, given))[1:],
                                 [reference.answer(23, given), reference.answer(22, given)])

    def test_the_one_text_read_again_tells_the_same(self):
        maker = Maker(2000)
        for k in range(400):
            text = join(maker.file())
            if len(text) > 2000:
                continue
            told = one_text(file(text))
            self.assertEqual(one_text(file(told)), told)
            views = [TOLD, LEAST, FORBIDDEN, LOCKS, KEYS, SWINGS, POWER, IDLE, HINDER, weights(2), TRADE, NOW, OPENED]
            self.assertEqual(run(file(text), *views), run(file(told), *views))


if __name__ == "__main__":
    unittest.main()
