"""[1], [2], [4] over the whole program: any values, sequences, what does not change, and what is not iterable."""

import itertools
import unittest

from deskcards import errors
from deskcards.bearing import mends, most_skips, needless, safe_windows
from deskcards.comparing import alike, parting
from deskcards.deciding import comes, faults, fewest, happens, standings, story
from deskcards.desk import Desk
from deskcards.live import Live
from deskcards.plays import play
from deskcards.rows import Row
from deskcards.stories import Story
from deskcards.telling import fits, fitting, numbers, surely_tried
from deskcards.terms import Terms
from deskcards.tools import Tool
from doors import doors, plain, slow
from values import any_values

EVENTS = ["give", "try 1", "give", "house", "try 2", "try 1"]
SEEN = ["give", "try 1 open", "give", "house", "try 2 open"]
MARKED = Tool.read("window 1\nnext if not marked a do learn then mark a open\nnext do learn then clear a shut\nhouse do learn open")
ERRORS = [
    errors.CardError(), errors.InvalidRow("word"), errors.InvalidTool("rows"), errors.InvalidTerms("skips"),
    errors.InvalidText(0), errors.InvalidEvent(0), errors.InvalidFault(), errors.InvalidSeen(0), errors.InvalidCommand(),
    errors.Refused(0), errors.NoRow(0),
]


def played(each):
    return each.number, each.marks, each.opened, each.done, each.met


def objects():
    """One object of each class."""
    return [Row("same"), Tool(1), plain(), Terms(), Story(), Story(EVENTS), play(plain(), Story(EVENTS)), Live(plain()), Desk()]


def questions(tool, terms):
    """Calls that do not change anything."""
    told = Story(EVENTS)
    return [
        lambda: str(tool), lambda: len(tool), lambda: tool.at_window(2), lambda: tool.without(0), lambda: tool[0],
        lambda: tool.answer(1, (), 2), lambda: str(terms), lambda: terms.lets(told), lambda: terms.but(skips=2),
        lambda: told.needs, lambda: told.given, lambda: told.upto(3), lambda: told.more(["give"]),
        lambda: played(play(tool, told)),
        lambda: [happens(tool, terms, fault) for fault in ("shut", "both")], lambda: faults(tool, terms),
        lambda: story(tool, terms, "stuck"), lambda: fewest(tool, terms, "behind"), lambda: comes(tool, terms, 0),
        lambda: standings(tool, terms), lambda: safe_windows(tool, terms, ["shut"]), lambda: most_skips(tool, terms, ["shut"]),
        lambda: needless(tool, terms, ["shut"]), lambda: mends(tool, terms, ["behind", "shut"]),
        lambda: alike(tool, slow(), terms.skips), lambda: parting(tool, slow(), terms.skips),
        lambda: fits(tool, terms, SEEN), lambda: numbers(tool, terms, SEEN), lambda: fitting([tool, slow()], terms, SEEN),
        lambda: surely_tried(tool, terms, SEEN),
    ]


def result(call):
    """What a call returns; the class and the attributes of an error that it raises."""
    try:
        return call()
    except (errors.CardError, errors.NoRow) as e:
        return type(e), vars(e)


class Values(unittest.TestCase):
    """Functions that are described for any value raise nothing but what is described."""

    def only(self, allowed, call, *arguments):
        try:
            call(*arguments)
        except Exception as e:
            self.assertIs(type(e), allowed, (call, arguments))

    def test_one_argument_of_any_value(self):
        told = Story(["give"])
        for value in any_values():
            for each in (value, [value], (value, value), ["give", value]):
                self.only(errors.InvalidRow, Row, each)
                self.only(errors.InvalidTool, Tool, each)
                self.only(errors.InvalidTool, plain().at_window, each)
                self.only(errors.InvalidTerms, Terms, each)
                self.only(errors.InvalidEvent, Story, each)
                self.only(errors.InvalidEvent, told.more, each)
                self.only(errors.InvalidSeen, fits, plain(), Terms(), each)
                self.only(errors.InvalidSeen, numbers, plain(), Terms(), each)
                self.only(errors.InvalidSeen, fitting, [plain()], Terms(), each)
                self.only(errors.InvalidSeen, surely_tried, plain(), Terms(), each)
                self.only(errors.InvalidFault, happens, plain(), Terms(0), each)
                self.only(errors.InvalidFault, story, plain(), Terms(0), each)
                self.only(errors.InvalidFault, fewest, plain(), Terms(0), each)
                self.only(errors.InvalidEvent, Live(plain()).do, each)
                self.only(errors.Refused, Live(plain()).several, each)
                self.only(errors.InvalidCommand, Desk().say, each)
            for asked in (safe_windows, most_skips, needless, mends):
                self.only(errors.InvalidFault, asked, plain(), Terms(0), [value])

    def test_several_arguments_of_any_values(self):
        for one, other in itertools.combinations(any_values(), 2):
            self.only(errors.InvalidRow, Row, "next", one, other)
            self.only(errors.InvalidRow, Row, one, other, [], other)
            self.only(errors.InvalidTool, Tool, one, other)
            self.only(errors.InvalidTerms, Terms, one, other, one)


class Sequences(unittest.TestCase):
    def test_lists_and_tuples(self):
        some = ["shut", "behind"]
        tools = [plain(), slow()]
        for kind in (list, tuple):
            self.assertEqual(str(Row("next", kind(["marked a"]), kind(["learn"]))), "next if marked a do learn open")
            self.assertEqual(Tool(3, kind(plain().rows)), plain())
            self.assertEqual(MARKED.answer(0, kind(["a"]), 1), (False, 1, (), 1))
            self.assertEqual(Story(kind(EVENTS)), Story(EVENTS))
            self.assertEqual(Story().more(kind(EVENTS)), Story(EVENTS))
            self.assertEqual(safe_windows(plain(), Terms(1), kind(some)), (2, 3))
            self.assertEqual(most_skips(plain(), Terms(1), kind(some)), 2)
            self.assertEqual(needless(plain(), Terms(0), kind(some)), (2, 3))
            self.assertEqual(mends(plain(), Terms(0), kind(some)), (2, 3))
            self.assertEqual(fits(plain(), Terms(0, house=True), kind(SEEN)), True)
            self.assertEqual(numbers(plain(), Terms(0, house=True), kind(SEEN)), (2,))
            self.assertEqual(fitting(kind(tools), Terms(0, house=True), kind(SEEN)), (0, 1))
            self.assertEqual(surely_tried(plain(), Terms(0, house=True), kind(SEEN)), (1, 2))
            self.assertEqual(Live(plain()).several(kind(EVENTS)), (None, True, None, None, True, False))

    def test_results_are_tuples(self):
        live = Live(slow())
        terms = Terms(1, True, True)
        for each in (
            live.several(EVENTS), Row("same").tests, Row("same").deeds, plain().rows, plain().marks, MARKED.marks,
            MARKED.answer(0, ["a"], 1), MARKED.answer(0, ["a"], 1)[2], Story(EVENTS).events, live.story.events,
            live.played.marks, live.played.opened, live.played.done, live.played.met, live.played.met[0],
            faults(slow(), terms), standings(slow(), terms), standings(MARKED, terms)[0][0], safe_windows(slow(), terms, []),
            needless(slow(), terms, []), mends(slow(), terms, []), numbers(slow(), terms, SEEN), surely_tried(slow(), terms, SEEN),
            numbers(plain(), terms, ["give", "try 1 shut"]), surely_tried(plain(), terms, ["give", "try 1 shut"]),
            fitting([slow()], terms, SEEN), parting(slow(), Tool(1), 1).events, story(slow(), terms, "both").events,
        ):
            self.assertIs(type(each), tuple)

    def test_later_changes_of_arguments_have_no_effect(self):
        tests, deeds, rows, events = ["marked a"], ["learn"], [Row("same")], list(EVENTS)
        row, tool, told, live = Row("next", tests, deeds), Tool(1, rows), Story(events), Live(slow())
        live.several(events)
        more = Story().more(events)
        for each in (tests, deeds, rows, events):
            each.clear()
        self.assertEqual((str(row), str(tool)), ("next if marked a do learn open", "window 1\nsame open"))
        self.assertEqual((told, live.story, more), (Story(EVENTS),) * 3)
        self.assertEqual(played(live.played), played(play(slow(), Story(EVENTS))))

    def test_arguments_are_not_changed(self):
        wanted, seen, tools, events = ["shut", "both", "shut"], list(SEEN), [slow(), plain()], list(EVENTS)
        for asked in (safe_windows, most_skips, needless, mends):
            asked(slow(), Terms(1, True), wanted)
        for asked in (fits, numbers, surely_tried):
            asked(slow(), Terms(1, True, True), seen)
        fitting(tools, Terms(1, True, True), seen)
        Live(slow()).several(events)
        self.assertEqual((wanted, seen, tools, events), (["shut", "both", "shut"], SEEN, [slow(), plain()], EVENTS))

    def test_errors_keep_their_arguments_themselves(self):
        kept = [1]
        for name in ("InvalidText", "InvalidEvent", "InvalidSeen", "Refused", "NoRow"):
            self.assertIs(getattr(errors, name)(at=kept).at, kept)
        for name in ("InvalidRow", "InvalidTool", "InvalidTerms"):
            self.assertIs(getattr(errors, name)(word=kept).word, kept)


class Same(unittest.TestCase):
    def test_whatever_calls_were_made_in_between(self):
        calls = [call for tool in (plain(), slow(), MARKED) for terms in (Terms(1), Terms(None, True, True))
                 for call in questions(tool, terms)]
        first = [result(call) for call in calls]
        for other in doors():
            for call in questions(other, Terms(2, True)):
                result(call)
        self.assertEqual([result(call) for call in reversed(calls)], first[::-1])

    def test_questions_change_nothing(self):
        tool, terms, live, desk = slow(), Terms(1, True, True), Live(slow()), Desk()
        live.several(EVENTS)
        desk.say("door window 1 ; same open")
        desk.say("do give")
        before = str(tool), str(terms), live.story, played(live.played), len(live), desk.live.story, len(desk.live)
        for call in questions(live.tool, terms) + questions(tool, live.story.needs) + questions(desk.live.tool, terms):
            result(call)
        for command in ("number", "marks", "met", "faults skips 1"):
            desk.say(command)
        live.within(lambda each: each.undo())
        self.assertEqual(
            (str(tool), str(terms), live.story, played(live.played), len(live), desk.live.story, len(desk.live)), before)

    def test_nothing_is_changed_by_a_call_that_raises(self):
        live, desk = Live(slow()), Desk()
        live.several(EVENTS)
        for command in ("number", "door x", "do give"):
            with self.assertRaises(errors.CardError):
                desk.say(command)
            self.assertIsNone(desk.live)
        desk.live = live
        before = live.tool, live.story, played(live.played), len(live)
        for call in (
            lambda: live.do("try 9"), lambda: live.several(["give", "give", "try 9"]), lambda: live.several(None),
            lambda: live.within(lambda each: each.several(["give", "try 9"])), lambda: desk.say("do try 9"),
            lambda: desk.say("door window 1 ; x"), lambda: desk.say("faults x"), lambda: desk.say("x"),
        ):
            with self.assertRaises(errors.CardError):
                call()
            self.assertEqual((live.tool, live.story, played(live.played), len(live)), before)
            self.assertIs(desk.live, live)

    def test_equal_to_nothing_of_another_class(self):
        some = [Row("same"), Tool(1), Terms(), Story(), Story(["give"]), "same open", "window 1", "skips any", "-", "give",
                (), ("give",), [], 0, 1, None, Live(Tool(1)), Desk(), play(Tool(1), Story()), *ERRORS]
        for one, other in itertools.permutations(some[:5], 2):
            self.assertFalse(one == other)
            self.assertTrue(one != other)
        for one in some[:5]:
            for other in some[5:]:
                self.assertFalse(one == other)
                self.assertFalse(other == one)


class Iterable(unittest.TestCase):
    def test_no_object_is_iterable(self):
        for each in objects() + ERRORS:
            for call in (iter, list, tuple, sorted, lambda value: [one for one in value], lambda value: "x" in value):
                with self.assertRaises(TypeError, msg=repr(each)):
                    call(each)

    def test_neither_are_doors_at_work(self):
        live = Live(plain())
        live.several(EVENTS)
        live.do("give")
        self.assertEqual(len(live), 2)
        with self.assertRaises(TypeError):
            iter(live)
        with self.assertRaises(TypeError):
            live[0]


if __name__ == "__main__":
    unittest.main()
