"""[3] the questions of [13] and [15] at the limits: windows of 3, 12 rows, two marks, elder cards, the house's card."""

import random
import unittest

from deskcards.bearing import mends, most_skips, needless, safe_windows
from deskcards.deciding import comes, faults, fewest, happens, standings, story
from deskcards.plays import play
from deskcards.rows import Row
from deskcards.stories import Story
from deskcards.terms import Terms
from deskcards.tools import Tool
from doors import plain, played_in_the_document, some_tools
from searches import all_standings, all_stories

FAULTS = ("behind", "both", "out", "shut", "stuck", "told")
WIDEST = (Terms(3, True, True), Terms(None, True, True))
LOTS = ((), ("a",), ("b",), ("a", "b"))


def tests_for(lot):
    return [f"marked {name}" if name in lot else f"not marked {name}" for name in ("a", "b")]


def deeds_to(lot):
    return ["learn"] + [f"mark {name}" if name in lot else f"clear {name}" for name in ("a", "b")]


def full_tools():
    """Doors of 12 rows that learn with all marks, in many ways."""
    source = random.Random(15)
    tools = []
    for _ in range(12):
        words = source.sample(["next", "near", "far"], 3)
        rows = [Row(word, tests_for(lot), deeds_to(source.choice(LOTS)), False) for word in words[:2] for lot in LOTS]
        rows += [Row("house", tests_for(lot), deeds_to(source.choice(LOTS))) for lot in LOTS[:2]]
        rows += [Row(words[2], tests_for(source.choice(LOTS))), Row(source.choice(["same", "last", "elder"]))]
        tools.append(Tool(3, rows))
    return tools


TOOLS = full_tools() + some_tools(16, 8, 12, 2, 3)


class Limits(unittest.TestCase):
    def test_the_tools_are_at_the_limits(self):
        for tool in TOOLS[:12]:
            self.assertEqual((tool.window, len(tool), tool.marks), (3, 12, ("a", "b")))

    def test_stories(self):
        for tool in TOOLS:
            for terms in WIDEST:
                least, _ = all_stories(tool, terms, 4)
                found = []
                for fault in FAULTS:
                    told = story(tool, terms, fault)
                    self.assertEqual(fewest(tool, terms, fault), None if told is None else len(told))
                    self.assertIs(happens(tool, terms, fault), told is not None)
                    if told is None:
                        self.assertNotIn(fault, least)
                        continue
                    found.append(fault)
                    self.assertTrue(terms.lets(told))
                    self.assertEqual([at for at, other in play(tool, told).met if other == fault], [len(told) - 1])
                    self.assertLessEqual(len(told), least.get(fault, 1000))
                    if told.given <= 4:
                        self.assertEqual(len(told), least[fault])
                self.assertEqual(faults(tool, terms), tuple(found))

    def test_rows_and_standings(self):
        for tool in TOOLS[::4]:
            for terms in WIDEST:
                # Some rows only come behind three cards that are far, one behind the other.
                expected, rows = all_standings(tool, terms, 17)
                self.assertEqual(standings(tool, terms), expected)
                self.assertEqual({at for at in range(len(tool)) if comes(tool, terms, at)}, rows)

    def test_bearing(self):
        for tool in TOOLS[::5]:
            for terms in WIDEST:
                same = faults(tool, terms)
                without = [faults(tool.without(at), terms) for at in range(len(tool))]
                self.assertEqual(needless(tool, terms, FAULTS),
                                 tuple(at for at, happening in enumerate(without) if happening == same))
                for fault in FAULTS:
                    self.assertEqual(mends(tool, terms, [fault]),
                                     tuple(at for at, happening in enumerate(without) if fault not in happening))
                    self.assertEqual(safe_windows(tool, terms, [fault]), tuple(
                        window for window in (1, 2, 3) if not happens(tool.at_window(window), terms, fault)))
                    most = most_skips(tool, terms, [fault])
                    self.assertIn(most, (None, 0, 1, 2, 3, "any"))
                    if most in (0, 1, 2):
                        self.assertFalse(happens(tool, terms.but(skips=most), fault))
                        self.assertTrue(happens(tool, terms.but(skips=most + 1), fault))

    def test_two_skips(self):
        for tool in TOOLS[:12:3]:
            least, _ = all_stories(tool, Terms(2, True, True), 4)
            self.assertLessEqual(set(least), set(faults(tool, Terms(2, True, True))))

    def test_nothing_ever_opens(self):
        for tool in TOOLS[:12]:
            rows = [Row(row.word, row.tests, row.deeds, row.word == "house") for row in tool.rows]
            for skips in (0, 1, 2, 3, None):
                self.assertEqual(faults(Tool(3, rows), Terms(skips, True, True)), ("shut", "stuck"))

    def test_more_than_the_limits(self):
        for tool in some_tools(17, 5, 15, 3, 4):
            for terms in (Terms(4, True, True), Terms(None, True, True)):
                for fault in faults(tool, terms):
                    self.assertIn(fault, [other for _, other in play(tool, story(tool, terms, fault)).met])

    def test_long_stories_are_read_and_played(self):
        events = ["give"] * 10 + ["try 10", "house", "give", "try 11", "try 3"] * 10
        told = Story(events)
        self.assertEqual(len(told), 60)
        self.assertEqual(Story.read(str(told)), told)
        played = play(plain().at_window(20), told)
        self.assertEqual(
            (played.number, played.marks, played.opened, played.done, played.met),
            played_in_the_document(plain().at_window(20), events),
        )


if __name__ == "__main__":
    unittest.main()
