"""[18] live doors: what they return, what can be taken back, and that nothing else changes them."""

import random
import unittest

from deskcards.errors import InvalidEvent, Refused
from deskcards.live import Live
from deskcards.plays import Played, play
from deskcards.stories import Story
from deskcards.terms import Terms
from deskcards.tools import Tool
from doors import doors, plain, slow, some_tools
from values import any_values

SOME = ["give", "try 1", "give", "house", "try 2", "try 1", "try 2"]


def parts(played):
    return played.number, played.marks, played.opened, played.done, played.met


def whole(live):
    """All that can be seen of a live door but for what can be taken back."""
    return str(live.tool), live.story.events, parts(live.played)


def history(live):
    """All that can be seen of a live door, with what can be taken back."""
    def look(other):
        found = [whole(other)]
        while len(other):
            assert other.undo() is True
            found.append(whole(other))
        return found
    return live.within(look)


class Checked(unittest.TestCase):
    def check(self, live, tool, events, undos):
        self.assertEqual(live.tool, tool)
        self.assertEqual(live.story, Story(events))
        self.assertEqual(parts(live.played), parts(play(tool, Story(events))))
        self.assertEqual(len(live), undos)

    def refused(self, live, at, event):
        """A wrong event is refused, with its number, and changes nothing."""
        before = history(live)
        with self.assertRaises(InvalidEvent, msg=repr(event)) as caught:
            live.do(event)
        self.assertEqual(caught.exception.at, at, repr(event))
        self.assertEqual(history(live), before)

    def refused_all(self, live, at, events):
        """Wrong events are refused, with the index of the first one; the events so far are counted in the cause."""
        before = history(live)
        with self.assertRaises(Refused, msg=repr(events)) as caught:
            live.several(events)
        self.assertEqual(caught.exception.at, at, repr(events))
        cause = caught.exception.__cause__
        self.assertIs(type(cause), InvalidEvent)
        if isinstance(events, (list, tuple)):
            self.assertEqual(cause.at, len(live.story) + at)
        self.assertEqual(history(live), before)


class Doing(Checked):
    def test_a_new_one(self):
        for tool in doors():
            live = Live(tool)
            self.check(live, tool, [], 0)
            self.assertIs(live.undo(), False)
            self.check(live, tool, [], 0)
        self.assertEqual(Live(tool=plain()).tool, plain())

    def test_do(self):
        live = Live(slow())
        returned = [live.do(event) for event in SOME]
        self.assertEqual(returned, [None, True, None, None, True, True, True])
        self.check(live, slow(), SOME, 7)
        self.assertEqual(live.played.met, ((5, "behind"), (5, "told"), (6, "both")))
        live = Live(plain())
        returned = [live.do(event=event) for event in SOME]
        self.assertEqual(returned, [None, True, None, None, True, False, True])
        self.assertTrue(all(type(each) in (bool, type(None)) for each in returned))

    def test_each_step_is_that_of_a_play(self):
        for tool in doors():
            live = Live(tool)
            for at, event in enumerate(SOME):
                answer = live.do(event)
                played = play(tool, Story(SOME[:at + 1]))
                self.assertEqual(answer, played.opened[-1] if event.startswith("try") else None)
                self.check(live, tool, SOME[:at + 1], at + 1)

    def test_kinds(self):
        live = Live(plain())
        live.several(SOME)
        self.assertIsInstance(live.tool, Tool)
        self.assertIsInstance(live.story, Story)
        self.assertIsInstance(live.played, Played)
        self.assertIs(type(len(live)), int)
        self.assertIs(type(live.undo()), bool)
        for name in ("tool", "story", "played"):
            self.assertIsInstance(vars(Live)[name], property)
            with self.assertRaises(AttributeError):
                setattr(live, name, None)

    def test_wrong_events(self):
        live = Live(plain())
        for value in any_values() + [["give"], ("give",), "give ", "try 1", "house", "try 0", Live(plain())]:
            if value != "give":
                self.refused(live, 0, value)
        live.several(["give", "try 1", "house"])
        for value in any_values() + [["give"], ("give",), [], "gives", "try 2", "try 01", "try 1 open", "house ", live]:
            if value not in ("give", "try 1"):
                self.refused(live, 3, value)
        self.check(live, plain(), ["give", "try 1", "house"], 1)

    def test_a_wrong_event_between_others(self):
        live = Live(plain())
        self.refused(live, 0, "try 1")
        live.do("give")
        self.refused(live, 1, "try 2")
        self.assertIs(live.do("try 1"), True)
        self.refused(live, 2, "try 2")
        live.do("give")
        self.assertIs(live.do("try 2"), True)
        self.refused(live, 4, "try 3")
        self.check(live, plain(), ["give", "try 1", "give", "try 2"], 4)
        live.undo()
        self.refused(live, 3, "try 3")

    def test_a_door_has_a_length_and_is_not_iterable(self):
        live = Live(plain())
        for _ in range(2):
            with self.assertRaises(TypeError):
                iter(live)
            with self.assertRaises(TypeError):
                list(live)
            with self.assertRaises(TypeError):
                tuple(live)
            with self.assertRaises(TypeError):
                "give" in live
            live.do("give")
        self.assertEqual(len(live), 2)


class Several(Checked):
    def test_all(self):
        for sequence in (SOME, tuple(SOME)):
            live = Live(slow())
            self.assertEqual(live.several(sequence), (None, True, None, None, True, True, True))
            self.check(live, slow(), SOME, 1)
            self.assertEqual(live.several(events=["give", "try 3", "try 1"]), (None, True, False))
            self.check(live, slow(), SOME + ["give", "try 3", "try 1"], 2)
            self.assertIs(live.undo(), True)
            self.check(live, slow(), SOME, 1)
            self.assertIs(live.undo(), True)
            self.check(live, slow(), [], 0)

    def test_it_returns_what_each_returned(self):
        source = random.Random(41)
        for tool in doors() + some_tools(42, 30, 8, 2):
            live, other = Live(tool), Live(tool)
            for _ in range(3):
                given = live.story.given
                events = []
                for _ in range(source.randint(0, 5)):
                    event = source.choice(["give", "house", f"try {source.randint(1, given)}"] if given else ["give"])
                    given += event == "give"
                    events.append(event)
                result = live.several(events)
                self.assertIs(type(result), tuple)
                self.assertEqual(result, tuple(other.do(event) for event in events))
                self.assertEqual(whole(live), whole(other))

    def test_no_events(self):
        live = Live(plain())
        for events in ([], ()):
            self.assertEqual(live.several(events), ())
        self.check(live, plain(), [], 2)
        live.do("give")
        self.assertEqual(live.several([]), ())
        self.check(live, plain(), ["give"], 4)
        self.assertIs(live.undo(), True)
        self.check(live, plain(), ["give"], 3)
        self.assertIs(live.undo(), True)
        self.check(live, plain(), [], 2)
        self.assertEqual([live.undo(), live.undo(), live.undo()], [True, True, False])

    def test_a_changed_list_changes_nothing(self):
        live, events = Live(plain()), ["give", "try 1"]
        live.several(events)
        events.append("house")
        events[0] = "house"
        self.check(live, plain(), ["give", "try 1"], 1)

    def test_no_sequence(self):
        for live in (Live(plain()), Live(slow())):
            for value in any_values() + ["give", "give; give", live]:
                if not isinstance(value, (list, tuple)):
                    self.refused_all(live, 0, value)
            live.several(SOME)

    def test_a_wrong_event_first_last_and_in_the_middle(self):
        for many in (0, 1, 4):
            live = Live(plain())
            for event in ["give", "try 1", "give", "house"][:many]:
                live.do(event)
            for value in any_values() + ["try 9", "try 0", "house ", ["give"], "try 1 open", live]:
                if value in ("give", "try 1"):
                    continue
                self.refused_all(live, 0, [value, "give"])
                self.refused_all(live, 1, ("give", value))
                self.refused_all(live, 2, ["give", "try 1", value, "give", value])
                self.refused_all(live, 3, ["give", "house", "try 1", value])
            self.assertEqual(len(live), many)

    def test_what_is_not_possible_there(self):
        live = Live(plain())
        self.refused_all(live, 0, ["house", "give"])
        self.refused_all(live, 0, ["try 1", "give"])
        self.refused_all(live, 1, ["give", "try 2", "give"])
        live.several(["give", "give"])
        self.refused_all(live, 0, ["try 3", "give"])
        self.refused_all(live, 2, ["give", "try 3", "try 4", "x"])
        self.assertEqual(live.several(["house", "give", "try 3"]), (None, None, True))

    def test_the_error_of_the_cause(self):
        live = Live(plain())
        live.several(["give"] * 3)
        with self.assertRaises(Refused) as caught:
            live.several(["try 3", "try 2", "try 4"])
        self.assertEqual(caught.exception.at, 2)
        self.assertIsInstance(caught.exception.__cause__, InvalidEvent)
        self.assertEqual(caught.exception.__cause__.at, 5)
        self.assertNotIsInstance(caught.exception, InvalidEvent)
        with self.assertRaises(Refused) as caught:
            live.several(None)
        self.assertIsInstance(caught.exception.__cause__, InvalidEvent)


class Changing(Checked):
    def test_another_tool(self):
        live = Live(plain())
        live.several(SOME)
        self.assertIsNone(live.change(slow()))
        self.check(live, slow(), SOME, 2)
        # The answers come from the beginning of the story on.
        self.assertEqual(live.played.opened, (True, True, True, True))
        self.assertIs(live.do("try 1"), True)
        self.check(live, slow(), SOME + ["try 1"], 3)
        live.change(tool=Tool(1))
        self.check(live, Tool(1), SOME + ["try 1"], 4)
        self.assertEqual(live.several(["give", "try 3"]), (None, False))
        for tool, events, undos in (
            (Tool(1), SOME + ["try 1"], 4), (slow(), SOME + ["try 1"], 3), (slow(), SOME, 2), (plain(), SOME, 1), (plain(), [], 0),
        ):
            self.assertIs(live.undo(), True)
            self.check(live, tool, events, undos)
        self.assertIs(live.undo(), False)

    def test_an_equal_tool(self):
        live = Live(plain())
        live.do("give")
        self.assertIsNone(live.change(plain()))
        self.check(live, plain(), ["give"], 2)
        self.assertIs(live.undo(), True)
        self.check(live, plain(), ["give"], 1)

    def test_ahead_of_all_events(self):
        live = Live(plain())
        live.change(slow())
        self.check(live, slow(), [], 1)
        live.undo()
        self.check(live, plain(), [], 0)

    def test_what_was_taken_back_is_gone(self):
        live = Live(plain())
        live.do("give")
        live.do("try 1")
        live.undo()
        live.do("house")
        self.check(live, plain(), ["give", "house"], 2)
        live.undo()
        live.undo()
        self.check(live, plain(), [], 0)
        self.assertIs(live.undo(), False)
        live.do("give")
        self.check(live, plain(), ["give"], 1)

    def test_what_was_got_from_a_door_does_not_change(self):
        live = Live(plain())
        live.several(SOME)
        tool, story, played = live.tool, live.story, live.played
        before = str(tool), str(story), parts(played)
        live.do("give")
        live.change(slow())
        live.undo()
        live.several(["try 3"])
        self.assertEqual((str(tool), str(story), parts(played)), before)

    def test_two_doors_with_the_same_tool(self):
        tool = plain()
        one, other = Live(tool), Live(tool)
        one.several(SOME)
        self.check(other, tool, [], 0)
        other.do("give")
        self.check(one, tool, SOME, 1)

    def test_forty_changes(self):
        source = random.Random(43)
        tools = doors()
        for _ in range(5):
            live, expected = Live(plain()), []
            for at in range(40):
                expected.append(whole(live))
                kind = source.choice(("do", "several", "change"))
                if kind == "do":
                    live.do("give")
                elif kind == "several":
                    live.several(["give", f"try {live.story.given + 1}"])
                else:
                    live.change(source.choice(tools))
                self.assertEqual(len(live), at + 1)
            for at in reversed(range(40)):
                self.assertIs(live.undo(), True)
                self.assertEqual((whole(live), len(live)), (expected[at], at))
            self.assertIs(live.undo(), False)


class Within(Checked):
    def setUp(self):
        self.live = Live(plain())
        self.live.several(["give", "try 1"])
        self.live.do("give")
        self.before = history(self.live)

    def after(self):
        self.assertEqual(history(self.live), self.before)
        self.check(self.live, plain(), ["give", "try 1", "give"], 2)

    def test_the_result(self):
        result = object()
        self.assertIs(self.live.within(lambda live: result), result)
        self.assertIsNone(self.live.within(work=lambda live: None))
        seen = []
        self.live.within(seen.append)
        self.assertEqual(len(seen), 1)
        self.assertIs(seen[0], self.live)
        self.after()

    def test_what_is_done_within(self):
        def work(live):
            live.several(["try 2", "try 1"])
            live.change(slow())
            live.do("house")
            self.check(live, slow(), ["give", "try 1", "give", "try 2", "try 1", "house"], 5)
            return live.do("try 1")
        self.assertIs(self.live.within(work), True)
        self.after()

    def test_what_is_taken_back_within(self):
        def work(live):
            found = [live.undo(), live.undo(), live.undo(), len(live)]
            live.do("give")
            return found
        self.assertEqual(self.live.within(work), [True, True, False, 0])
        self.after()
        self.assertIs(self.live.undo(), True)
        self.check(self.live, plain(), ["give", "try 1"], 1)
        self.assertIs(self.live.undo(), True)
        self.check(self.live, plain(), [], 0)
        self.assertIs(self.live.undo(), False)

    def test_an_error(self):
        def work(live):
            live.undo()
            live.change(slow())
            live.do("give")
            live.do("try 9")
        with self.assertRaises(InvalidEvent) as caught:
            self.live.within(work)
        self.assertEqual(caught.exception.at, 3)
        self.after()
        own = KeyError("own")

        def other(live):
            live.undo()
            live.undo()
            raise own
        with self.assertRaises(KeyError) as caught:
            self.live.within(other)
        self.assertIs(caught.exception, own)
        self.after()
        with self.assertRaises(Refused):
            self.live.within(lambda live: live.several(["give", "x"]))
        self.after()

    def test_within_within_within(self):
        def innermost(live):
            live.undo()
            live.change(Tool(1))
            raise KeyError("x")

        def inner(live):
            live.do("house")
            with self.assertRaises(KeyError):
                live.within(innermost)
            self.check(live, slow(), ["give", "try 1", "give", "try 2", "house"], 5)
            live.undo()
            return "inner"

        def outer(live):
            live.change(slow())
            live.do("try 2")
            self.assertEqual(live.within(inner), "inner")
            self.check(live, slow(), ["give", "try 1", "give", "try 2"], 4)
            live.undo()
            live.undo()
            live.undo()
            return "outer"
        self.assertEqual(self.live.within(outer), "outer")
        self.after()

    def test_it_is_none_of_the_changes(self):
        self.live.within(lambda live: live.do("give"))
        self.assertEqual(len(self.live), 2)
        self.assertIs(self.live.do("try 2"), True)
        self.assertEqual(len(self.live), 3)

    def test_another_door_is_left_as_it_is(self):
        other = Live(slow())
        self.live.within(lambda live: other.do("give"))
        self.check(other, slow(), ["give"], 1)
        self.after()

    def test_terms_of_the_story(self):
        self.assertEqual(self.live.story.needs, Terms(0))
        self.assertEqual(self.live.within(lambda live: (live.several(["give", "give"]), live.story.needs)[1]), Terms(2))


if __name__ == "__main__":
    unittest.main()
