"""[9] stories, [11] what they need, and what [2] says of them."""

import itertools
import re
import unittest

from deskcards.errors import InvalidEvent, InvalidText
from deskcards.stories import Story
from deskcards.terms import Terms
from values import any_values, deep

TOLD = ["give", "give", "try 2", "house", "give", "try 1"]


def first_wrong_in_the_document(events):
    """The number of the first event that is none or not possible, as [9] tells it."""
    for at, event in enumerate(events):
        given = sum(1 for other in events[:at] if isinstance(other, str) and other == "give")
        if not isinstance(event, str):
            return at
        tried = re.fullmatch("try (0|[1-9][0-9]?)", event, re.ASCII)
        if event == "give" or (event == "house" and given):
            continue
        if not tried or not 1 <= int(tried[1]) <= given:
            return at
    return None


class Making(unittest.TestCase):
    def wrong(self, at, *arguments, **named):
        with self.assertRaises(InvalidEvent, msg=repr((arguments, named))) as caught:
            Story(*arguments, **named)
        self.assertEqual(caught.exception.at, at, (arguments, named))

    def test_attributes(self):
        story = Story(TOLD)
        self.assertEqual(story.events, tuple(TOLD))
        self.assertIs(type(story.events), tuple)
        self.assertIsInstance(story.needs, Terms)
        self.assertEqual((story.given, len(story)), (3, 6))

    def test_the_story_without_events(self):
        for story in (Story(), Story([]), Story(()), Story(events=())):
            self.assertEqual((story.events, story.given, len(story), str(story)), ((), 0, 0, "-"))
            self.assertEqual(str(story.needs), "skips 0")

    def test_lists_and_tuples(self):
        self.assertEqual(Story(TOLD), Story(tuple(TOLD)))
        self.assertEqual(Story(events=TOLD), Story(TOLD))

    def test_changed_lists_change_nothing(self):
        events = list(TOLD)
        story = Story(events)
        events.clear()
        self.assertEqual((story.events, str(story.needs)), (tuple(TOLD), "skips 1 elder house"))

    def test_given(self):
        for many in (0, 1, 2, 60):
            self.assertEqual(Story(["give"] * many).given, many)
        self.assertEqual(Story(["give", "try 1", "house", "give", "try 1"]).given, 2)

    def test_no_sequence(self):
        for value in any_values() + ["give", "give; give", "house"]:
            if not isinstance(value, (list, tuple)):
                self.wrong(0, value)
                self.wrong(0, events=value)

    def test_elements_of_any_value(self):
        for value in any_values() + [["give"], ("give",), [], deep("give")]:
            if value in ("give", "house", "try 1"):
                continue
            self.wrong(0, [value])
            self.wrong(1, ("give", value))
            self.wrong(2, ["give", "try 1", value, "no event"])
            self.wrong(3, ["give", "give", "try 2", value, value])

    def test_strings_that_are_no_events(self):
        for event in ("", " ", "Give", "give ", " give", "gives", "giv", "give 1", "GIVE", "houses", "house ", " house",
                      "House", "house 1", "try", "try ", "try  1", "try 1 ", " try 1", "Try 1", "try1", "try 01", "try 001",
                      "try 00", "try 0", "try 1.", "try -1", "try +1", "try a", "try one", "try 1 1", "try 1\n", "try\n1",
                      "try 1_0", "try 0x1", "try \u0661", "try \u00b9", "1", "try 1;", "try 100", "tries 1", "-", "try 1 open"):
            self.wrong(0, [event])
            self.wrong(12, ["give"] * 12 + [event])
            self.wrong(1, ["give", event, "try 5"])

    def test_numbers_of_one_and_of_two_digits(self):
        gives = ["give"] * 105
        for card in range(1, 100):
            self.assertEqual(Story(gives + [f"try {card}"]).events[-1], f"try {card}")
            self.wrong(card - 1, gives[:card - 1] + [f"try {card}"])
        for card in (100, 101, 105, 999):
            self.wrong(105, gives + [f"try {card}"])
        for digits in ("01", "09", "00", "010", "007"):
            self.wrong(105, gives + [f"try {digits}"])

    def test_cards_that_were_not_given_yet(self):
        self.wrong(0, ["try 1"])
        self.wrong(0, ["try 1", "give"])
        self.wrong(1, ["give", "try 2", "give"])
        self.wrong(3, ["give", "try 1", "give", "try 3", "try 4"])
        self.wrong(3, ["give", "give", "try 2", "try 0"])
        Story(["give", "give", "try 1", "try 2", "try 1"])

    def test_the_house_ahead_of_the_first_give(self):
        self.wrong(0, ["house"])
        self.wrong(0, ["house", "give"])
        self.wrong(0, ["house", "no event"])
        Story(["give", "house", "house"])

    def test_the_first_wrong_one_is_told(self):
        pool = ["give", "house", "try 1", "try 2", "try 3", "try 0", "x", None, 5]
        for many in range(5):
            for events in itertools.product(pool, repeat=many):
                wrong = first_wrong_in_the_document(events)
                if wrong is None:
                    self.assertEqual(Story(list(events)).events, events)
                else:
                    self.wrong(wrong, list(events))


class Parts(unittest.TestCase):
    def test_upto(self):
        story = Story(TOLD)
        for many in range(10):
            self.assertEqual(story.upto(many).events, tuple(TOLD[:many]))
            self.assertIsInstance(story.upto(many), Story)
        self.assertEqual(story.upto(many=2), Story(["give", "give"]))
        self.assertEqual((story.upto(0), story.upto(100)), (Story(), story))
        self.assertEqual(Story().upto(3), Story())
        self.assertEqual(story.events, tuple(TOLD))

    def test_more(self):
        story = Story(TOLD[:3])
        for further in (TOLD[3:], tuple(TOLD[3:])):
            self.assertEqual(story.more(further), Story(TOLD))
            self.assertEqual(story.more(events=further), Story(TOLD))
        self.assertEqual((story.more([]), story.more(())), (story, story))
        self.assertEqual(Story().more(TOLD), Story(TOLD))
        self.assertEqual(story.events, tuple(TOLD[:3]))

    def test_more_tells_the_number_in_the_whole_story(self):
        for events, further, at in (
            ([], ["house"], 0),
            ([], ["give", "x"], 1),
            (["give"], ["try 2"], 1),
            (["give"], ["house", "try 2", "give"], 2),
            (TOLD, ["try 4"], 6),
            (TOLD, ["give", "try 4", "try 5"], 8),
            (TOLD, [None], 6),
            (TOLD, ["give", ["give"]], 7),
        ):
            with self.assertRaises(InvalidEvent) as caught:
                Story(events).more(further)
            self.assertEqual(caught.exception.at, at)

    def test_more_of_no_sequence(self):
        for events in ([], TOLD):
            for value in any_values() + ["give"]:
                if not isinstance(value, (list, tuple)):
                    with self.assertRaises(InvalidEvent) as caught:
                        Story(events).more(value)
                    self.assertEqual(caught.exception.at, 0)

    def test_more_with_any_elements(self):
        for value in any_values():
            if value not in ("give", "house", "try 1"):
                with self.assertRaises(InvalidEvent) as caught:
                    Story(TOLD).more(("give", value))
                self.assertEqual(caught.exception.at, 7)

    def test_lists_that_were_passed_to_more(self):
        further = ["give"]
        story = Story(TOLD).more(further)
        further[0] = "x"
        self.assertEqual(story.events, (*TOLD, "give"))

    def test_stories_are_not_iterable(self):
        for work in (iter, list, tuple, lambda story: "give" in story):
            for events in ([], TOLD):
                with self.assertRaises(TypeError):
                    work(Story(events))


class Needs(unittest.TestCase):
    def needs(self, *events):
        return str(Story(events).needs)

    def test_the_example_of_the_document(self):
        told = Story(TOLD)
        self.assertEqual(
            (told.given, str(told.needs), Terms(1, elder=True).lets(told), str(told.upto(3).needs)),
            (3, "skips 1 elder house", False, "skips 1"),
        )

    def test_skips(self):
        self.assertEqual(self.needs("give"), "skips 0")
        self.assertEqual(self.needs("give", "give"), "skips 1")
        self.assertEqual(self.needs("give", "try 1", "give", "try 2", "give"), "skips 0")
        self.assertEqual(self.needs(*["give"] * 12), "skips 11")
        self.assertEqual(self.needs("give", "give", "give", "try 3", "give"), "skips 2")
        self.assertEqual(self.needs("give", "house", "give"), "skips 1 house")
        self.assertEqual(self.needs("give", "give", "try 1", "give"), "skips 1 elder")
        self.assertEqual(self.needs("give", "give", "give", "try 1"), "skips 2 elder")

    def test_elder_and_house(self):
        self.assertEqual(self.needs("give", "try 1", "try 1"), "skips 0")
        self.assertEqual(self.needs("give", "try 1", "give", "try 1"), "skips 0 elder")
        self.assertEqual(self.needs("give", "house"), "skips 0 house")
        self.assertEqual(self.needs("give", "try 1", "give", "try 1", "house"), "skips 0 elder house")

    def test_least_terms(self):
        """Those terms let a story that grant at least what it needs, and no others."""
        pool = ["give", "house", "try 1", "try 2", "try 3"]
        all_terms = [Terms(*each) for each in itertools.product((0, 1, 2, 3, None), (False, True), (False, True))]
        for many in range(6):
            for events in itertools.product(pool, repeat=many):
                if first_wrong_in_the_document(events) is not None:
                    continue
                story = Story(events)
                needs = story.needs
                self.assertTrue(needs.lets(story))
                for terms in all_terms:
                    enough = (
                        (terms.skips is None or terms.skips >= needs.skips)
                        and (terms.elder or not needs.elder) and (terms.house or not needs.house)
                    )
                    self.assertIs(terms.lets(story), enough, (events, str(terms)))

    def test_needs_are_numbers_and_bools(self):
        for events in ([], TOLD):
            needs = Story(events).needs
            self.assertIs(type(needs.skips), int)
            self.assertIs(type(needs.elder), bool)
            self.assertIs(type(needs.house), bool)


class Texts(unittest.TestCase):
    def wrong(self, at, text):
        with self.assertRaises(InvalidText, msg=repr(text)) as caught:
            Story.read(text)
        self.assertEqual(caught.exception.at, at, repr(text))

    def test_texts(self):
        for events, text in (
            ([], "-"),
            (["give"], "give"),
            (TOLD, "give; give; try 2; house; give; try 1"),
            (["give"] * 11 + ["try 11"], "give; " * 11 + "try 11"),
        ):
            self.assertEqual(str(Story(events)), text)
            self.assertEqual(Story.read(text).events, tuple(events))
            self.assertEqual(Story.read(text=text), Story(events))

    def test_long_texts(self):
        story = Story((["give"] * 10 + ["try 10", "house"]) * 5)
        self.assertEqual(Story.read(str(story)), story)

    def test_the_first_wrong_part_is_told(self):
        for text, at in (
            ("", 0), (" ", 0), ("--", 0), ("- ", 0), (" -", 0), ("-; give", 0), ("give; -", 1), ("give; ", 1), ("; give", 0),
            (";", 0), ("give;give", 0), ("give;  give", 1), ("give ; give", 0), ("give; give ", 1), ("give; give;", 1),
            ("give, give", 0), ("give\ngive", 0), ("give; give\n", 1), ("house", 0), ("house; give", 0), ("try 1", 0),
            ("give; try 2", 1), ("give; try 1; try 2; give", 2), ("give; try 01", 1), ("give; try 0", 1),
            ("give; give; house; try 3; x", 3), ("give; Give", 1), ("give; try 1 open", 1), ("give; try \u0661", 1),
            ("; ".join(["give"] * 100 + ["try 99", "try 100"]), 101), ("give; ; ", 1), ("x; y", 0),
        ):
            self.wrong(at, text)

    def test_equal_stories(self):
        self.assertTrue(Story(TOLD) == Story(tuple(TOLD)))
        self.assertFalse(Story(TOLD) != Story(tuple(TOLD)))
        for other in (Story(), Story(TOLD[:5]), Story([*TOLD, "give"]), Story([*TOLD[:5], "try 2"])):
            self.assertFalse(Story(TOLD) == other)
            self.assertTrue(Story(TOLD) != other)

    def test_no_story_equals_another_value(self):
        for value in any_values() + ["-", (), ("give",)]:
            if not isinstance(value, Story):
                for story in (Story(), Story(["give"])):
                    self.assertFalse(story == value)
                    self.assertFalse(value == story)
                    self.assertTrue(story != value)


if __name__ == "__main__":
    unittest.main()
