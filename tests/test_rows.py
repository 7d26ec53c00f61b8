"""[6] rows, and what [1] says of names."""

import itertools
import re
import unittest

from deskcards.errors import InvalidRow, InvalidText
from deskcards.rows import Row
from values import any_values

WORDS = ("same", "next", "near", "far", "last", "elder", "house")
WITH_DEEDS = ("next", "near", "far", "house")
WITHOUT_DEEDS = ("same", "last", "elder")
BARRED = ("and", "do", "if", "mark", "not", "open", "shut", "then")
NAMES = ("a", "z", "ab", "abc", "wxyz", "zzzz", "same", "next", "far", "give", "try", "has", "ifs", "dos", "note")
NO_NAMES = BARRED + (
    "", "abcde", "marked", "learn", "clear", "A", "aB", "a1", "1", "a_", "a-b", " a", "a ", "a b", "a\n", "\u00e9", "\u00df",
    "\u0430",
)

NAME = "(?!(?:and|do|if|mark|not|open|shut|then)(?![a-z]))[a-z]{1,4}(?![a-z])"
TEST = f"(?:not )?marked {NAME}"
DEED = f"(?:learn|(?:mark|clear) {NAME})"
FORM = re.compile(
    f"(?P<word>{'|'.join(WORDS)})(?: if {TEST}(?: and {TEST})*)?"
    f"(?: do (?P<deeds>{DEED}(?: then {DEED})*))? (?P<end>open|shut)"
)


def is_row_text(text):
    """Says by a regular expression, written from the document, if a text is that of a row."""
    found = FORM.fullmatch(text)
    if not found:
        return False
    if found["word"] == "house" and found["end"] == "shut":
        return False
    return found["deeds"] is None or (
        found["word"] in WITH_DEEDS and "learn" in found["deeds"].split(" then ")
    )


class Rows(unittest.TestCase):
    def wrong(self, parameter, *arguments, **named):
        with self.assertRaises(InvalidRow) as caught:
            Row(*arguments, **named)
        self.assertEqual(caught.exception.word, parameter, (arguments, named))

    def test_attributes_are_the_arguments(self):
        row = Row("near", ["marked a", "not marked b", "marked a"], ["mark b", "learn", "learn"], False)
        self.assertEqual(row.word, "near")
        self.assertEqual(row.tests, ("marked a", "not marked b", "marked a"))
        self.assertEqual(row.deeds, ("mark b", "learn", "learn"))
        self.assertIs(row.opens, False)
        self.assertIs(type(row.tests), tuple)
        self.assertIs(type(row.deeds), tuple)

    def test_defaults(self):
        for word in WORDS:
            row = Row(word)
            self.assertEqual((row.word, row.tests, row.deeds), (word, (), ()))
            self.assertIs(row.opens, True)

    def test_arguments_by_name(self):
        row = Row(opens=False, deeds=("learn",), tests=("marked m",), word="far")
        self.assertEqual(row, Row("far", ("marked m",), ("learn",), False))
        self.assertEqual(str(Row.read(text=str(row))), str(row))

    def test_changed_lists_change_nothing(self):
        tests, deeds = ["marked a"], ["learn"]
        row = Row("next", tests, deeds)
        tests.append("marked b")
        deeds.clear()
        self.assertEqual(str(row), "next if marked a do learn open")
        self.assertEqual((row.tests, row.deeds), (("marked a",), ("learn",)))

    def test_arguments_are_not_changed(self):
        tests, deeds = ["marked a"], ["learn"]
        Row("next", tests, deeds)
        self.assertEqual((tests, deeds), (["marked a"], ["learn"]))

    def test_wrong_words(self):
        for value in any_values() + ["Same", "same ", " same", "nearer", "", "open", ["same"], ("next",), "sam"]:
            if value != "same":
                self.wrong("word", value)

    def test_wrong_tests(self):
        for value in any_values():
            if value not in ([], ()):
                self.wrong("tests", "same", value)
            if value != "marked a":
                self.wrong("tests", "same", ["marked a", value])
                self.wrong("tests", "same", (value,))

    def test_forms_of_tests(self):
        for text in ("", "marked", "marked ", "not marked", "not marked ", "marked a b", "marked  a", "Marked a",
                     "not  marked a", "not not marked a", " marked a", "mark a", "clear a", "learn", "not a",
                     "notmarked a", "marked a and marked b"):
            self.wrong("tests", "next", [text])

    def test_names_in_tests(self):
        for name in NAMES:
            for text in ("marked " + name, "not marked " + name):
                self.assertEqual(Row("same", [text]).tests, (text,))
        for name in NO_NAMES:
            self.wrong("tests", "same", ["marked " + name])
            self.wrong("tests", "same", ["not marked " + name])

    def test_wrong_deeds(self):
        for value in any_values():
            if value not in ([], (), ["learn"]):
                self.wrong("deeds", "next", (), value)
            if value not in ("learn", "mark a"):
                self.wrong("deeds", "next", (), ["learn", value])
                self.wrong("deeds", "next", (), (value, "learn"))

    def test_forms_of_deeds(self):
        for text in ("", "mark", "mark ", "clear", "clear ", "mark  a", "mark a b", "Mark a", "marked a", "not mark a",
                     "learn a", "learn ", " learn", "Learn", "mark a then learn", "set a"):
            self.wrong("deeds", "next", (), ["learn", text])

    def test_names_in_deeds(self):
        for name in NAMES:
            deeds = ("mark " + name, "learn", "clear " + name)
            self.assertEqual(Row("far", (), deeds).deeds, deeds)
        for name in NO_NAMES:
            self.wrong("deeds", "far", (), ["learn", "mark " + name])
            self.wrong("deeds", "far", (), ["learn", "clear " + name])

    def test_only_some_rows_may_have_deeds(self):
        for word in WITH_DEEDS:
            self.assertEqual(Row(word, (), ["learn"]).deeds, ("learn",))
        for word in WITHOUT_DEEDS:
            self.wrong("deeds", word, (), ["learn"])
            self.wrong("deeds", word, (), ("mark a", "learn"))

    def test_deeds_without_learn(self):
        for word in WORDS:
            self.wrong("deeds", word, (), ["mark a"])
            self.wrong("deeds", word, (), ["clear a", "mark a"])

    def test_wrong_opens(self):
        for value in any_values():
            if not isinstance(value, bool):
                for word in WORDS:
                    self.wrong("opens", word, (), (), value)

    def test_house_rows_open(self):
        self.wrong("opens", "house", opens=False)
        self.wrong("opens", "house", ["marked a"], ["learn"], False)
        self.assertIs(Row("house", opens=True).opens, True)
        for word in WORDS[:-1]:
            self.assertIs(Row(word, opens=False).opens, False)

    def test_the_first_wrong_argument_is_named(self):
        good = {"word": "near", "tests": ["marked a"], "deeds": ["learn"], "opens": True}
        bad = {"word": "nearly", "tests": ["marked"], "deeds": ["mark a"], "opens": 1}
        for choice in itertools.product((False, True), repeat=4):
            wrong = [name for name, chosen in zip(good, choice) if chosen]
            if wrong:
                self.wrong(wrong[0], **{name: bad[name] if name in wrong else good[name] for name in good})
        self.wrong("deeds", "house", (), ["mark a"], False)

    def test_texts(self):
        for row, text in (
            (Row("same"), "same open"),
            (Row("elder", opens=False), "elder shut"),
            (Row("house", (), ["learn"]), "house do learn open"),
            (Row("last", ["not marked ab"]), "last if not marked ab open"),
            (Row("far", ["marked a", "marked a"], ["learn", "mark b", "clear a"], False),
             "far if marked a and marked a do learn then mark b then clear a shut"),
        ):
            self.assertEqual(str(row), text)
            self.assertEqual(Row.read(text), row)
            self.assertEqual(str(Row.read(text)), text)

    def test_each_row_can_be_read_back(self):
        tests = ((), ("marked a",), ("not marked wxyz", "marked a"), ("marked b", "marked b", "not marked same"))
        deeds = ((), ("learn",), ("mark a", "learn"), ("learn", "clear a", "mark next"))
        for word, some, done, opens in itertools.product(WORDS, tests, deeds, (True, False)):
            if (done and word in WITHOUT_DEEDS) or (word == "house" and not opens):
                continue
            row = Row(word, some, done, opens)
            back = Row.read(str(row))
            self.assertEqual((back.word, back.tests, back.deeds, back.opens), (word, some, done, opens))
            self.assertTrue(is_row_text(str(row)))

    def read_or_not(self, text):
        if is_row_text(text):
            self.assertEqual(str(Row.read(text)), text)
            return
        with self.assertRaises(InvalidText, msg=repr(text)) as caught:
            Row.read(text)
        self.assertEqual(caught.exception.at, 0)

    def test_other_strings(self):
        for text in ("", " ", "open", "shut", "same", "same  open", " same open", "same open ", "same open\n", "\nsame open",
                     "same\nopen", "Same open", "same if open", "same if  open", "same do open", "next do  open",
                     "next do learn", "next do learn if marked a open", "next do learn do learn open",
                     "near if marked a if marked b shut", "near if marked a and open", "near do learn then open",
                     "same do learn open", "last do learn shut", "next do mark a open", "house shut", "house do learn shut",
                     "window 3", "next if marked and do learn open", "next if marked a and and marked b open", "near close"):
            self.assertFalse(is_row_text(text))
            self.read_or_not(text)

    def test_words_taken_out_put_in_and_changed(self):
        texts = (
            "far if marked a and not marked b do learn then mark b then clear a shut",
            "house if not marked ab do mark c then learn open",
            "elder if marked wxyz open",
        )
        others = ("if", "do", "and", "then", "not", "marked", "mark", "clear", "learn", "a", "open", "shut", "same", "")
        for text in texts:
            words = text.split(" ")
            for at in range(len(words) + 1):
                self.read_or_not(" ".join(words[:at] + words[at + 1:]))
                for other in others:
                    self.read_or_not(" ".join(words[:at] + [other] + words[at:]))
                    self.read_or_not(" ".join(words[:at] + [other] + words[at + 1:]))

    def test_signs_taken_out_put_in_and_changed(self):
        text = "near if not marked ab do learn then mark c open"
        for at in range(len(text) + 1):
            self.read_or_not(text[:at] + text[at + 1:])
            for sign in " aZ0\n\u00e9":
                self.read_or_not(text[:at] + sign + text[at:])
                self.read_or_not(text[:at] + sign + text[at + 1:])

    def test_equal_rows(self):
        row = Row("next", ["marked a"], ["learn"])
        self.assertTrue(row == Row("next", ("marked a",), ("learn",), True))
        self.assertFalse(row != Row("next", ("marked a",), ("learn",), True))
        for other in (Row("near", ["marked a"], ["learn"]), Row("next", [], ["learn"]), Row("next", ["marked a"]),
                      Row("next", ["marked a"], ["learn"], False), Row("next", ["not marked a"], ["learn"])):
            self.assertFalse(row == other)
            self.assertTrue(row != other)

    def test_no_row_equals_another_value(self):
        row = Row("same")
        for value in any_values() + [str(row)]:
            if not isinstance(value, Row):
                self.assertFalse(row == value)
                self.assertFalse(value == row)
                self.assertTrue(row != value)

    def test_rows_are_not_iterable(self):
        with self.assertRaises(TypeError):
            iter(Row("same"))
        with self.assertRaises(TypeError):
            "same" in Row("same")

    def test_more_tests_and_deeds_than_the_limits(self):
        row = Row("far", ["marked a"] * 9, ["learn"] * 9)
        self.assertEqual((len(row.tests), len(row.deeds)), (9, 9))
        self.assertEqual(Row.read(str(row)), row)


if __name__ == "__main__":
    unittest.main()
