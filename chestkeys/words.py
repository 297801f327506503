"""The words of a text: parted by single blanks, and each line's end a word of its own."""

from chestkeys.refusals import Fault

BLANK = 32
LINE_END = 10
LINE_END_WORD = "\n"
LETTERS = "abcdefghijklmnopqrstuvwxyz"
DIGITS = "0123456789"
BRACKETS = "()"
# Stands for every byte that no word of a file has: what it's in can stand nowhere.
OTHER_SIGN = "?"


class Word:
    """A word as a text, and how many bytes stand before it."""

    def __init__(self, spelled, place):
        self.spelled = spelled
        self.place = place


def sign_of(byte):
    """The letter, digit or bracket that a byte stands for."""
    for row in (LETTERS, DIGITS, BRACKETS):
        k = byte - ord(row[0])
        if 0 <= k < len(row):
            return row[k]
    return OTHER_SIGN


def spell(text):
    """The bytes of a word as a text."""
    return "".join([sign_of(byte) for byte in text])


def split_words(text):
    """The words of a text, the empty ones too, and behind them an empty one for what's missing at the end."""
    words = []
    start = 0
    for place, byte in enumerate(text):
        if byte == BLANK or byte == LINE_END:
            words.append(Word(spell(text[start:place]), start))
            start = place + 1
        if byte == LINE_END:
            words.append(Word(LINE_END_WORD, place))
    words.append(Word(spell(text[start:]), start))
    words.append(Word("", len(text)))
    return words


class Reader:
    """Goes through the words of a text, one behind another."""

    def __init__(self, text):
        self.words = split_words(text)
        self.position = 0

    def shown(self):
        """The word that's next; an empty one at the text's end."""
        return self.words[self.position].spelled

    def at_end(self):
        """Whether all words of the text have been gone through."""
        return self.position == len(self.words) - 1

    def go_on(self):
        """Go on behind the word that's next."""
        self.position = self.position + 1

    def refuse(self):
        """The word that's next can't stand there, or is missing."""
        raise Fault(self.words[self.position].place)

    def expect(self, spelled):
        """Go on behind this word; no other can stand there."""
        if self.shown() != spelled:
            self.refuse()
        self.go_on()

    def finish(self):
        """No more words can stand."""
        if not self.at_end():
            self.refuse()
