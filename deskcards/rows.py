"""Rows: what a door does with one kind of card."""

from deskcards.common import is_name, is_sequence
from deskcards.errors import InvalidRow, InvalidText

WORDS = ("same", "next", "near", "far", "last", "elder", "house")
WORDS_WITH_DEEDS = ("next", "near", "far", "house")


def is_word(value):
    """Whether any value is one of the seven words."""
    return isinstance(value, str) and value in WORDS


def is_lead_and_name(text, leads):
    """Whether a text is one of these leads, a space and a name."""
    lead, _, name = text.rpartition(" ")
    return lead in leads and is_name(name)


def is_test(value):
    """Whether any value is the text of a test."""
    return isinstance(value, str) and is_lead_and_name(value, ("marked", "not marked"))


def is_deed(value):
    """Whether any value is the text of a deed."""
    return isinstance(value, str) and (value == "learn" or is_lead_and_name(value, ("mark", "clear")))


def are_tests(value):
    """Whether any value is a sequence of tests."""
    return is_sequence(value) and all([is_test(test) for test in value])


def are_deeds(value, word):
    """Whether any value is a sequence of deeds that a row with this word may have."""
    if not is_sequence(value) or not all([is_deed(deed) for deed in value]):
        return False
    return len(value) == 0 or (word in WORDS_WITH_DEEDS and "learn" in value)


def is_opens(value, word):
    """Whether any value tells if a row with this word opens."""
    return isinstance(value, bool) and (value or word != "house")


class Row:
    """What the door does with a card: a word, tests, deeds, and whether it opens."""

    def __init__(self, word, tests=(), deeds=(), opens=True):
        if not is_word(word):
            raise InvalidRow("word")
        if not are_tests(tests):
            raise InvalidRow("tests")
        if not are_deeds(deeds, word):
            raise InvalidRow("deeds")
        if not is_opens(opens, word):
            raise InvalidRow("opens")
        self.word = word
        self.tests = tuple(tests)
        self.deeds = tuple(deeds)
        self.opens = opens

    @classmethod
    def read(cls, text):
        """The row with this text."""
        head, _, ending = text.rpartition(" ")
        if ending not in ("open", "shut"):
            raise InvalidText(0)
        # No name is a joining word, so each of these can be found by itself.
        front, doing, deeds = head.partition(" do ")
        word, testing, tests = front.partition(" if ")
        try:
            return cls(
                word,
                tests.split(" and ") if testing else (),
                deeds.split(" then ") if doing else (),
                ending == "open",
            )
        except InvalidRow:
            raise InvalidText(0) from None

    def __eq__(self, other):
        return isinstance(other, Row) and str(self) == str(other)

    def __str__(self):
        parts = [self.word]
        if self.tests:
            parts.append("if " + " and ".join(self.tests))
        if self.deeds:
            parts.append("do " + " then ".join(self.deeds))
        parts.append("open" if self.opens else "shut")
        return " ".join(parts)
