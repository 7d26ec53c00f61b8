"""[19], [20] desks: each command, what it needs, and what is no command."""

import random
import unittest

from deskcards.deciding import faults
from deskcards.desk import Desk
from deskcards.errors import CardError, InvalidCommand, InvalidEvent, InvalidText
from deskcards.live import Live
from deskcards.plays import play
from deskcards.stories import Story
from deskcards.terms import Terms
from deskcards.tools import Tool
from doors import doors, plain, slow, some_tools
from values import LINES, any_values

DOOR = "door " + " ; ".join(LINES)
COMMANDS = ("do give", "do house", "do try 1", "number", "marks", "met", "faults skips any", "undo")


def door(tool):
    return "door " + str(tool).replace("\n", " ; ")


def looked_at(desk):
    """All that can be seen of a desk."""
    live = desk.live
    if live is None:
        return None
    played = live.played
    return str(live.tool), live.story.events, (played.number, played.marks, played.opened, played.done, played.met), len(live)


class Checked(unittest.TestCase):
    def setUp(self):
        self.desk = Desk()

    def say(self, *pairs):
        """Say each command, and compare its result."""
        for command, result in pairs:
            self.assertEqual(self.desk.say(command), result, command)

    def wrong(self, command, error=InvalidCommand, at=None):
        """A wrong command raises this error, and changes nothing."""
        live, before = self.desk.live, looked_at(self.desk)
        with self.assertRaises(CardError, msg=repr(command)) as caught:
            self.desk.say(command)
        self.assertIs(type(caught.exception), error, repr(command))
        if at is not None:
            self.assertEqual(caught.exception.at, at, repr(command))
        self.assertIs(self.desk.live, live)
        self.assertEqual(looked_at(self.desk), before)


class Commands(Checked):
    def test_the_example_of_the_document(self):
        self.say((DOOR, "4"), ("do give", "done"), ("do try 1", "open"), ("number", "1"), ("faults skips any", "shut stuck"))

    def test_a_new_desk(self):
        self.assertIsNone(self.desk.live)
        self.assertIsNone(Desk().live)
        self.say((DOOR, "4"))
        self.assertIsInstance(self.desk.live, Live)
        self.assertEqual(self.desk.live.tool, plain())
        self.assertEqual(self.desk.live.story, Story())
        self.assertEqual(len(self.desk.live), 0)
        self.assertIsNone(Desk().live)

    def test_by_name(self):
        self.assertEqual(self.desk.say(command=DOOR), "4")

    def test_results_are_texts(self):
        for command in (DOOR, *COMMANDS, "undo", "undo", "undo", "undo"):
            self.assertIs(type(self.desk.say(command)), str)

    def test_door(self):
        for tool in doors() + some_tools(51, 20, 12, 2):
            self.say((door(tool), str(len(tool))))
            self.assertEqual(self.desk.live.tool, tool)
        self.say(("door window 1", "0"), ("door window 99", "0"), ("door window 1 ; same open", "1"))

    def test_do(self):
        self.say((DOOR, "4"), ("do give", "done"), ("do house", "done"), ("do try 1", "open"))
        self.say(*[("do give", "done")] * 4)
        self.say(("do try 5", "shut"), ("do try 1", "open"), ("do try 2", "open"), ("do try 1", "shut"))
        self.assertEqual(len(self.desk.live.story), 11)
        self.assertEqual(len(self.desk.live), 11)

    def test_number(self):
        self.say((DOOR, "4"), ("number", "0"), ("do give", "done"), ("number", "0"), ("do try 1", "open"), ("number", "1"),
                 ("do give", "done"), ("do give", "done"), ("do try 3", "open"), ("number", "3"), ("undo", "undone"), ("number", "1"))

    def test_marks(self):
        tool = ("window 2\nnext if not marked b do learn then mark b open\nnext if not marked a do learn then mark a open"
                "\nnext do learn then clear b open\nnear do learn then clear a then clear b shut")
        self.say((door(tool), "4"), ("marks", "none"))
        for card, marks in ((1, "b"), (2, "a b"), (3, "a"), (4, "a b")):
            self.say(("do give", "done"), (f"do try {card}", "open"), ("marks", marks))
        self.say(("do give", "done"), ("do give", "done"), ("do try 6", "shut"), ("marks", "none"))

    def test_met(self):
        self.say((door(slow()), "5"), ("met", "none"), ("do give", "done"), ("do try 1", "open"), ("do give", "done"),
                 ("do house", "done"), ("met", "none"), ("do try 2", "open"), ("do try 1", "open"), ("met", "behind told"),
                 ("do try 2", "open"), ("met", "behind both told"), ("do try 1", "open"), ("met", "behind both told"))
        self.say(*[("do give", "done")] * 4)
        self.say(("met", "behind both stuck told"), ("do try 6", "shut"), ("met", "behind both shut stuck told"),
                 ("undo", "undone"), ("met", "behind both stuck told"))

    def test_faults(self):
        self.say((DOOR, "4"), ("faults skips any", "shut stuck"), ("faults skips 3", "shut stuck"), ("faults skips 2", "none"),
                 ("faults skips 2 elder", "none"), ("faults skips 0 elder house", "told"))
        for tool in doors():
            self.say((door(tool), str(len(tool))))
            for terms in (Terms(0), Terms(1, True), Terms(2, False, True), Terms(3, True, True), Terms(None, True, True)):
                self.say((f"faults {terms}", " ".join(faults(tool, terms)) or "none"))
            self.assertEqual(looked_at(self.desk)[1:], ((), (0, (), (), (), ()), 0))

    def test_faults_are_those_of_all_stories_and_not_of_this_one(self):
        self.say((door(slow()), "5"), ("faults skips 0 elder", "behind both"), ("met", "none"))
        self.say(("do give", "done"), ("do try 1", "open"), ("faults skips 0 elder", "behind both"), ("faults skips 0", "none"))

    def test_undo(self):
        self.say((DOOR, "4"), ("undo", "nothing"), ("do give", "done"), ("do try 1", "open"), ("undo", "undone"), ("number", "0"),
                 ("do try 1", "open"), ("undo", "undone"), ("undo", "undone"), ("undo", "nothing"), ("undo", "nothing"))
        self.assertEqual(self.desk.live.story, Story())

    def test_questions_are_no_changes(self):
        self.say((DOOR, "4"), ("do give", "done"))
        before = looked_at(self.desk)
        for command in ("number", "marks", "met", "faults skips 1 elder house"):
            self.desk.say(command)
            self.assertEqual(looked_at(self.desk), before)
        self.say(("undo", "undone"), ("undo", "nothing"))

    def test_the_live_door_is_that_of_the_desk(self):
        self.say((DOOR, "4"))
        live = self.desk.live
        self.assertEqual(live.several(["give", "try 1", "give"]), (None, True, None))
        self.say(("number", "1"), ("do try 2", "open"))
        self.assertEqual(len(live), 2)
        live.change(slow())
        self.say(("do try 1", "open"), ("met", "behind"), ("faults skips 0 elder", "behind both"), ("undo", "undone"),
                 ("undo", "undone"), ("do try 1", "shut"), ("undo", "undone"), ("undo", "undone"), ("undo", "undone"), ("undo", "nothing"))
        self.assertIs(self.desk.live, live)

    def test_two_desks(self):
        other = Desk()
        self.say((DOOR, "4"), ("do give", "done"))
        other.say(door(slow()))
        self.assertEqual((other.say("undo"), other.say("number")), ("nothing", "0"))
        self.say(("do try 1", "open"), ("number", "1"))
        self.assertEqual(other.live.story, Story())

    def test_all_commands_against_a_play(self):
        source = random.Random(52)
        for tool in doors() + some_tools(53, 30, 8, 2):
            self.say((door(tool), str(len(tool))))
            events = []
            for _ in range(12):
                given = events.count("give")
                event = source.choice(["give", "house", f"try {source.randint(1, given)}"] if given else ["give"])
                events.append(event)
                played = play(tool, Story(events))
                opened = ("open" if played.opened[-1] else "shut") if event.startswith("try") else "done"
                self.say(
                    (f"do {event}", opened), ("number", str(played.number)), ("marks", " ".join(played.marks) or "none"),
                    ("met", " ".join(sorted({fault for _, fault in played.met})) or "none"),
                )


class Doors(Checked):
    """Doors that are got, one behind the other."""

    def test_ahead_of_the_first_door(self):
        for command in COMMANDS + ("faults skips x", "do nothing", "number 1", "undo undo", "faults", "do", "door", ""):
            self.wrong(command)
        self.wrong("door x", InvalidText, 0)
        for command in COMMANDS:
            self.wrong(command)
        self.assertIsNone(self.desk.live)

    def test_a_door_behind_a_live_door(self):
        self.say((DOOR, "4"), ("do give", "done"), ("do try 1", "open"), ("undo", "undone"))
        self.say((door(slow()), "5"), ("number", "0"), ("met", "none"), ("undo", "nothing"))
        self.assertEqual(looked_at(self.desk), (str(slow()), (), (0, (), (), (), ()), 0))
        self.wrong("do try 1", InvalidEvent, 0)
        # A door with the same text is a new one, too.
        self.say(("do give", "done"), (door(slow()), "5"), ("undo", "nothing"))

    def test_a_door_whose_text_is_none(self):
        self.say((DOOR, "4"), ("do give", "done"), ("do try 1", "open"))
        for text, at in (("x", 0), ("window 0", 0), ("window 1 ; same", 1), ("window 1 ; same open ; next do open", 2)):
            self.wrong(f"door {text}", InvalidText, at)
            self.say(("number", "1"))
        self.say(("undo", "undone"), ("number", "0"), ("undo", "undone"), ("undo", "nothing"))
        self.wrong("door window", InvalidText, 0)
        self.say(("undo", "nothing"))


class Wrong(Checked):
    def each_way(self, command):
        """Wrong with a live door and without one."""
        self.desk = Desk()
        self.wrong(command)
        self.say((DOOR, "4"), ("do give", "done"))
        self.wrong(command)
        self.say(("do try 1", "open"), ("undo", "undone"), ("undo", "undone"), ("undo", "nothing"))

    def test_no_strings(self):
        for value in any_values() + [["number"], ("undo",), [DOOR], [], 0, None, True]:
            if value != "undo":
                self.each_way(value)

    def test_newlines(self):
        for command in ("number\n", "\nnumber", "\n", "do\ngive", "do give\n", "door window 1\nsame open", "faults skips any\n",
                        "faults\nskips any", "undo\nundo", DOOR + "\n"):
            self.each_way(command)

    def test_empty_words(self):
        for command in ("", " ", "  ", "number ", " number", " undo", "undo ", "do  give", "do give ", " do give", "do try  1",
                        "do ", "door ", "door  window 1", "door window  1", "door window 1 ", " door window 1", "faults ",
                        "faults  skips any", "faults skips  any", "faults skips any ", "marks ", "met  ", "door window 1 ;  same open",
                        "door window 1  ; same open", "door window 1 ; same open ; ", "door  ; window 1"):
            self.each_way(command)

    def test_words_too_many_or_too_few(self):
        for command in ("number 1", "number number", "marks a", "marks none", "met shut", "undo 1", "undo undo", "undo do give",
                        "do", "door", "faults"):
            self.each_way(command)

    def test_other_words(self):
        for command in ("Number", "numbers", "give", "try 1", "house", "say number", "DO give", "Door window 1", "window 1",
                        "skips any", "fault skips any", "none", "-", ";", "; number", "number ;", "do;", "None", "live",
                        "story", "open", "number\tnumber", "n\u00famber"):
            self.each_way(command)

    def test_wrong_events(self):
        self.say((DOOR, "4"))
        for event in ("x", "try", "try 1", "house", "give give", "give;", "try 1 open", "Give", "try 0"):
            self.wrong(f"do {event}", InvalidEvent, 0)
        self.say(("do give", "done"), ("do try 1", "open"), ("do house", "done"))
        for event in ("x", "try", "try 2", "try 01", "house house", "give; give", "do give", "1"):
            self.wrong(f"do {event}", InvalidEvent, 3)
        self.say(("undo", "undone"))
        self.wrong("do try 2", InvalidEvent, 2)

    def test_wrong_terms(self):
        self.say((DOOR, "4"), ("do give", "done"))
        for text in ("skips", "any", "x", "skips x", "skips 100", "skips 01", "skips -1", "skips any house elder", "skips any elder elder",
                     "Skips any", "skips any ;", "elder", "skips 2 elder house x", "skips any, elder"):
            self.wrong(f"faults {text}", InvalidText, 0)

    def test_newlines_in_the_text_of_a_door(self):
        for text, at in (
            ("; window 1", 0), ("window 1 ;", 0), (";", 0), ("; ;", 0), ("; ; ;", 0), ("window 1; same open", 0),
            ("window 1 ;same open", 0), ("window 1 ; ; same open", 1), ("window 1 ; same open ;", 1), ("window 1 ; same open ; ;", 2),
            ("window 1 ; same open ; ; next open", 2), ("window 1 ; ;", 1), ("window 1 ; same open ; same", 2),
            ("window 1 ;; same open", 0), ("; window 1 ; same open", 0), ("window 1 ; same open ; x ; y", 2),
        ):
            self.desk = Desk()
            self.wrong(f"door {text}", InvalidText, at)
            self.say((DOOR, "4"))
            self.wrong(f"door {text}", InvalidText, at)
            with self.assertRaises(InvalidText) as caught:
                Tool.read(text.replace(" ; ", "\n"))
            self.assertEqual(caught.exception.at, at, text)

    def test_wrong_commands_between_others(self):
        self.say((DOOR, "4"), ("do give", "done"))
        for command, error in (("do try 2", InvalidEvent), ("faults x", InvalidText), ("door x", InvalidText), ("nothing", InvalidCommand),
                               (None, InvalidCommand), ("do  give", InvalidCommand)):
            self.wrong(command, error)
        self.say(("do try 1", "open"), ("number", "1"), ("undo", "undone"), ("undo", "undone"), ("undo", "nothing"))

    def test_the_error_keeps_nothing(self):
        with self.assertRaises(InvalidCommand) as caught:
            self.desk.say("x")
        self.assertEqual(vars(caught.exception), {})


if __name__ == "__main__":
    unittest.main()
