"""[12] plays: what a door does in a story, and each of the six faults."""

import unittest

from deskcards.plays import Played, play
from deskcards.rows import Row
from deskcards.stories import Story
from deskcards.tools import Tool
from doors import all_events, doors, plain, played_in_the_document, slow, some_tools

# A door that opens for every card and learns nothing.
ALL = "window 2\nsame open\nnext open\nnear open\nfar open\nlast open\nelder open"


def met(tool, text):
    return play(tool, Story.read(text)).met


def parts(played):
    return played.number, played.marks, played.opened, played.done, played.met


class Playing(unittest.TestCase):
    def test_the_examples_of_the_document(self):
        done = play(plain(), Story(["give", "try 1", "give", "give", "try 3", "try 2"]))
        self.assertEqual(
            (done.number, done.opened, done.done, done.met),
            (3, (True, True, False), (None, 1, None, None, 2, None), ()),
        )
        self.assertEqual(
            met(slow(), "give; try 1; give; house; try 2; try 1; try 2"),
            ((5, "behind"), (5, "told"), (6, "both")),
        )

    def test_the_story_without_events(self):
        for tool in doors():
            self.assertEqual(parts(play(tool, Story())), (0, (), (), (), ()))

    def test_arguments_by_name(self):
        story = Story(["give", "try 1"])
        self.assertEqual(parts(play(story=story, tool=plain())), parts(play(plain(), story)))

    def test_attributes_are_tuples(self):
        for text in ("-", "give; try 1; give; house; try 2; try 1; try 2"):
            played = play(slow(), Story.read(text))
            self.assertIsInstance(played, Played)
            for each in (played.marks, played.opened, played.done, played.met):
                self.assertIs(type(each), tuple)
            self.assertTrue(all(type(each) is tuple for each in played.met))
            self.assertTrue(all(type(each) is bool for each in played.opened))

    def test_number_and_marks(self):
        tool = Tool.read("window 3\nnext do learn then mark b open\nnear do learn then mark a then clear b shut\nfar shut")
        for text, number, marks in (
            ("give", 0, ()), ("give; try 1", 1, ("b",)), ("give; try 1; give; try 2", 2, ("b",)),
            ("give; try 1; give; give; try 3", 3, ("a",)), ("give; give; try 2; give; try 3", 3, ("a", "b")),
            ("give; give; give; give; try 4", 0, ()), ("give; try 1; try 1", 1, ("b",)),
        ):
            played = play(tool, Story.read(text))
            self.assertEqual((played.number, played.marks), (number, marks), text)

    def test_opened_tells_of_tries_only(self):
        played = play(plain(), Story.read("give; house; try 1; give; house; try 1; give; try 3; try 3"))
        self.assertEqual(played.opened, (True, True, True, True))
        self.assertEqual(len(played.done), 9)
        self.assertEqual(play(plain(), Story(["give", "house"])).opened, ())

    def test_the_card_of_the_house(self):
        tool = Tool(2, [Row("same"), Row("house", ["marked a"]), Row("house", ["not marked a"], ["learn", "mark a"])])
        for text, number, marks, done in (
            ("give; house", 1, ("a",), (None, 2)),
            ("give; give; give; house", 3, ("a",), (None, None, None, 2)),
            ("give; house; house", 1, ("a",), (None, 2, None)),
            ("give; house; give; house", 1, ("a",), (None, 2, None, 1)),
            ("give; house; try 1", 1, ("a",), (None, 2, 0)),
        ):
            played = play(tool, Story.read(text))
            self.assertEqual((played.number, played.marks, played.done), (number, marks, done), text)

    def test_a_house_without_a_row(self):
        played = play(plain(), Story(["give", "house", "give", "house"]))
        self.assertEqual((played.number, played.marks, played.done), (0, (), (None,) * 4))

    def test_nothing_changes(self):
        tool, story = slow(), Story.read("give; try 1; give; house; try 2; try 1; try 2")
        first = parts(play(tool, story))
        play(plain(), story)
        play(tool, Story(["give"]))
        self.assertEqual(parts(play(tool, story)), first)
        self.assertEqual((tool, str(story)), (slow(), "give; try 1; give; house; try 2; try 1; try 2"))

    def test_played_is_not_iterable(self):
        with self.assertRaises(TypeError):
            iter(play(plain(), Story()))


class Faults(unittest.TestCase):
    def at(self, fault, tool, text, *expected):
        """The fault is met at these events, and at no others."""
        tool = Tool.read(tool) if isinstance(tool, str) else tool
        found = [at for at, other in met(tool, text) if other == fault]
        self.assertEqual(found, list(expected), (fault, text))

    def test_behind(self):
        self.at("behind", slow(), "give; try 1; give; try 2; try 1", 4)
        self.at("behind", ALL, "give; give; try 2; try 1", 3)
        # The greater one is tried last, or the same one again.
        self.at("behind", ALL, "give; give; give; try 1; try 2; try 3; try 3")
        # The greater card was only given, or was tried but did not open.
        self.at("behind", ALL, "give; give; try 1")
        self.at("behind", "window 1\nnext open\nfar shut", "give; give; try 2; try 1")
        # The lower one does not open.
        self.at("behind", plain(), "give; try 1; give; try 2; try 1")
        # The house's card is no card with a greater number.
        self.at("behind", "window 1\nnext open\nlast open\nhouse do learn open", "give; give; house; try 1")

    def test_both(self):
        self.at("both", ALL, "give; give; try 2; try 1; try 2", 4)
        self.at("both", slow(), "give; try 1; give; try 2; try 1; try 2", 5)
        # No lower one opened since: none at all, or one ahead of the first time or of the last time.
        self.at("both", ALL, "give; give; try 2; try 2")
        self.at("both", ALL, "give; give; try 1; try 2; try 2")
        self.at("both", ALL, "give; give; try 2; try 1; try 2; try 2; try 1; try 2", 4, 7)
        # A greater one opened since.
        self.at("both", ALL, "give; give; give; try 2; try 3; try 2")
        # The card did not open earlier.
        self.at("both", ALL, "give; give; try 1; try 2")
        # The lower one was tried, but did not open.
        self.at("both", plain(), "give; try 1; give; try 2; try 1; try 2")
        # Others may come in between, and the lower one may have opened ahead of it, too.
        self.at("both", ALL, "give; give; give; try 1; try 2; try 3; try 1; try 3; try 2", 7, 8)

    def test_out(self):
        self.at("out", "window 1\nnext if not marked a do learn then mark a open", "give; try 1; try 1; try 1", 2, 3)
        # The newest card did not open earlier.
        self.at("out", "window 3\nsame open\nnear do learn shut\nnext open", "give; give; try 2; try 2")
        # It opened, and is no longer the newest one.
        self.at("out", "window 1\nnext do learn open\nsame shut\nfar open\nlast shut", "give; try 1; give; try 1")
        # It opened ahead of the house's card.
        self.at("out", "window 1\nnext open\nsame shut\nhouse do learn open", "give; try 1; house; try 1", 3)
        self.at("out", "window 1\nnext open\nsame open\nhouse do learn open", "give; try 1; house; try 1")
        # It opened as a far card, and is the next one behind an elder card that was learned.
        tool = "window 1\nnext if not marked a do learn then mark a open\nfar open\nnext shut"
        self.at("out", tool, "give; give; try 2; try 1; try 2", 4)
        self.at("out", tool, "give; give; try 1; try 2")

    def test_shut(self):
        self.at("shut", "window 1\nnext do learn shut\nsame open", "give; try 1; try 1", 1)
        self.at("shut", plain(), "give; try 1; try 1; give; give; try 3")
        self.at("shut", plain(), "give; give; give; give; try 4; try 4", 4, 5)
        # Only the newest card is meant.
        self.at("shut", "window 1\nfar open", "give; give; try 1; try 2; try 1")
        self.at("shut", "window 1\nfar open", "give; try 1; give; try 1", 1)
        # It need not have been opened earlier, and need not stay out.
        self.at("shut", "window 1", "give; try 1", 1)

    def test_stuck(self):
        self.at("stuck", plain(), "give; give; give; give", 3)
        self.at("stuck", plain(), "give; give; give")
        self.at("stuck", "window 1\nnext shut", "give", 0)
        # No card, no fault.
        self.at("stuck", "window 1", "-")
        # Also behind tries and the house's card, as long as it lasts.
        self.at("stuck", "window 1", "give; try 1; house", 0, 1, 2)
        self.at("stuck", plain(), "give; give; give; give; try 4; try 3; try 4", 3, 4)
        # A card that is given next gets the door to open again, or is stuck.
        self.at("stuck", "window 1\nsame open\nfar do learn open\nnext shut", "give; give; give", 0)
        self.at("stuck", "window 1\nsame open\nfar shut\nnext open", "give; give; give", 1, 2)

    def test_stuck_where_a_later_try_opens(self):
        later = "window 1\nnext do learn shut\nsame open"
        self.at("stuck", later, "give; try 1; try 1")
        self.at("stuck", later, "give; give", 1)
        marked = "window 2\nnext do learn shut\nnear do learn then mark a shut\nsame if marked a open"
        self.at("stuck", marked, "give; give; try 2", 0)
        never = "window 2\nnext do learn open\nnear do learn then mark a shut\nsame if not marked a open"
        self.at("stuck", never, "give; give; try 2; give", 1, 2)

    def test_stuck_behind_the_house(self):
        tool = "window 2\nnext open\nfar open\nhouse do learn open"
        self.at("stuck", tool, "give; house; give", 1)
        self.at("stuck", tool, "give; give; house; give; house", 1, 2, 4)

    def test_told(self):
        self.at("told", ALL, "give; give; house; try 1", 3)
        # Not behind the give of a greater card.
        self.at("told", ALL, "give; house; give; try 1")
        self.at("told", ALL, "give; house; try 1")
        self.at("told", ALL, "give; give; house; try 2")
        self.at("told", ALL, "give; give; house; give; try 3; try 2")
        # The try comes ahead of the house's card, or does not open.
        self.at("told", ALL, "give; give; try 1; house")
        self.at("told", plain(), "give; try 1; give; try 2; house; try 1")
        # Whether the door does something with the house's card or not.
        self.at("told", "window 2\nlast open\nnear do learn open\nhouse do learn open", "give; give; house; try 1", 3)
        self.at("told", "window 2\nlast open\nnear do learn open", "give; give; try 2; house; try 1", 4)
        # An earlier house stays told, and of several the last one tells most.
        self.at("told", ALL, "give; give; house; try 2; try 2; try 1; try 1", 5, 6)
        self.at("told", ALL, "give; give; house; give; house; try 2; try 1; try 3", 5, 6)

    def test_several_at_one_event_in_order(self):
        self.assertEqual(
            met(Tool.read(ALL), "give; give; give; house; try 2; try 3; try 1; try 2"),
            ((4, "told"), (6, "behind"), (6, "told"), (7, "behind"), (7, "both"), (7, "told")),
        )
        self.assertEqual(
            met(Tool.read("window 1\nnext do learn open"), "give; try 1; try 1"),
            ((1, "stuck"), (2, "out"), (2, "shut"), (2, "stuck")),
        )


class Search(unittest.TestCase):
    def test_all_short_stories(self):
        for tool in doors():
            for many in range(6):
                for events in all_events(many, 3):
                    self.assertEqual(
                        parts(play(tool, Story(events))), played_in_the_document(tool, events), (str(tool), events))

    def test_other_doors(self):
        stories = all_events(6, 4)[::41] + all_events(7, 5)[::811]
        for tool in some_tools(12, 40, 8, 2):
            for events in stories:
                self.assertEqual(
                    parts(play(tool, Story(events))), played_in_the_document(tool, events), (str(tool), events))

    def test_long_stories(self):
        events = ["give", "try 1"] + ["give", "try 2", "house", "give", "try 3", "try 1"] * 9 + ["give", "try 20", "house"]
        events = events[:60]
        self.assertEqual(len(events), 59)
        for tool in doors() + some_tools(13, 40, 12, 3):
            self.assertEqual(parts(play(tool, Story(events))), played_in_the_document(tool, events), str(tool))

    def test_wide_windows(self):
        tool = plain().at_window(20)
        for gives in (19, 20, 21, 30):
            played = play(tool, Story(["give"] * gives + [f"try {gives}"]))
            self.assertEqual(played.number, gives if gives <= 20 else 0)
            self.assertEqual(played.opened, (gives <= 20,))


if __name__ == "__main__":
    unittest.main()
