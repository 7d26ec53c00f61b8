"""[3] the questions from [13] on at the limits: windows of 3, 12 rows, two marks, elder cards, the house's card."""

import random
import unittest

from deskcards.bearing import mends, most_skips, needless, safe_windows
from deskcards.comparing import alike, parting
from deskcards.deciding import comes, faults, fewest, happens, standings, story
from deskcards.plays import play
from deskcards.rows import Row
from deskcards.stories import Story
from deskcards.telling import fits, fitting, numbers, surely_tried
from deskcards.terms import Terms
from deskcards.tools import Tool
from doors import plain, played_in_the_document, some_tools
from searches import all_standings, all_stories, least_difference, sights, told_back

FAULTS = ("behind", "both", "out", "shut", "stuck", "told")
WIDEST = (Terms(3, True, True), Terms(None, True, True))
LOTS = ((), ("a",), ("b",), ("a", "b"))


def tests_for(lot):
    return [f"marked {name}" if name in lot else f"not marked {name}" for name in ("a", "b")]


def deeds_to(lot):
    return ["learn"] + [f"mark {name}" if name in lot else f"clear {name}" for name in ("a", "b")]


def full_tools():
    """Doors of 12 rows that learn with all marks, in many ways."""
    source = random.Random(15)
    tools = []
    for _ in range(12):
        words = source.sample(["next", "near", "far"], 3)
        rows = [Row(word, tests_for(lot), deeds_to(source.choice(LOTS)), False) for word in words[:2] for lot in LOTS]
        rows += [Row("house", tests_for(lot), deeds_to(source.choice(LOTS))) for lot in LOTS[:2]]
        rows += [Row(words[2], tests_for(source.choice(LOTS))), Row(source.choice(["same", "last", "elder"]))]
        tools.append(Tool(3, rows))
    return tools


TOOLS = full_tools() + some_tools(16, 8, 12, 2, 3)


class Limits(unittest.TestCase):
    def test_the_tools_are_at_the_limits(self):
        for tool in TOOLS[:12]:
            self.assertEqual((tool.window, len(tool), tool.marks), (3, 12, ("a", "b")))

    def test_stories(self):
        for tool in TOOLS:
            for terms in WIDEST:
                least, _ = all_stories(tool, terms, 4)
                found = []
                for fault in FAULTS:
                    told = story(tool, terms, fault)
                    self.assertEqual(fewest(tool, terms, fault), None if told is None else len(told))
                    self.assertIs(happens(tool, terms, fault), told is not None)
                    if told is None:
                        self.assertNotIn(fault, least)
                        continue
                    found.append(fault)
                    self.assertTrue(terms.lets(told))
                    self.assertEqual([at for at, other in play(tool, told).met if other == fault], [len(told) - 1])
                    self.assertLessEqual(len(told), least.get(fault, 1000))
                    if told.given <= 4:
                        self.assertEqual(len(told), least[fault])
                self.assertEqual(faults(tool, terms), tuple(found))

    def test_rows_and_standings(self):
        for tool in TOOLS[::4]:
            for terms in WIDEST:
                # Some rows only come behind three cards that are far, one behind the other.
                expected, rows = all_standings(tool, terms, 17)
                self.assertEqual(standings(tool, terms), expected)
                self.assertEqual({at for at in range(len(tool)) if comes(tool, terms, at)}, rows)

    def test_bearing(self):
        for tool in TOOLS[::5]:
            for terms in WIDEST:
                same = faults(tool, terms)
                without = [faults(tool.without(at), terms) for at in range(len(tool))]
                self.assertEqual(needless(tool, terms, FAULTS),
                                 tuple(at for at, happening in enumerate(without) if happening == same))
                for fault in FAULTS:
                    self.assertEqual(mends(tool, terms, [fault]),
                                     tuple(at for at, happening in enumerate(without) if fault not in happening))
                    self.assertEqual(safe_windows(tool, terms, [fault]), tuple(
                        window for window in (1, 2, 3) if not happens(tool.at_window(window), terms, fault)))
                    most = most_skips(tool, terms, [fault])
                    self.assertIn(most, (None, 0, 1, 2, 3, "any"))
                    if most in (0, 1, 2):
                        self.assertFalse(happens(tool, terms.but(skips=most), fault))
                        self.assertTrue(happens(tool, terms.but(skips=most + 1), fault))

    def test_two_skips(self):
        for tool in TOOLS[:12:3]:
            least, _ = all_stories(tool, Terms(2, True, True), 4)
            self.assertLessEqual(set(least), set(faults(tool, Terms(2, True, True))))

    def test_nothing_ever_opens(self):
        for tool in TOOLS[:12]:
            rows = [Row(row.word, row.tests, row.deeds, row.word == "house") for row in tool.rows]
            for skips in (0, 1, 2, 3, None):
                self.assertEqual(faults(Tool(3, rows), Terms(skips, True, True)), ("shut", "stuck"))

    def test_more_than_the_limits(self):
        for tool in some_tools(17, 5, 15, 3, 4):
            for terms in (Terms(4, True, True), Terms(None, True, True)):
                for fault in faults(tool, terms):
                    self.assertIn(fault, [other for _, other in play(tool, story(tool, terms, fault)).met])

    def test_long_stories_are_read_and_played(self):
        events = ["give"] * 10 + ["try 10", "house", "give", "try 11", "try 3"] * 10
        told = Story(events)
        self.assertEqual(len(told), 60)
        self.assertEqual(Story.read(str(told)), told)
        played = play(plain().at_window(20), told)
        self.assertEqual(
            (played.number, played.marks, played.opened, played.done, played.met),
            played_in_the_document(plain().at_window(20), events),
        )


class Compared(unittest.TestCase):
    def check(self, p, q, skips, cards):
        told = parting(p, q, skips)
        self.assertIs(alike(p, q, skips), told is None)
        least = least_difference(p, q, skips, cards)
        if told is None:
            self.assertIsNone(least)
            return
        self.assertTrue(Terms(skips, False, True).lets(told))
        first, second = play(p, told).opened, play(q, told).opened
        self.assertEqual((first[:-1], first[-1]), (second[:-1], not second[-1]))
        if told.given <= cards:
            self.assertEqual(len(told), least)
        else:
            # One of more cards may be told even if there is one as short with fewer.
            self.assertTrue(least is None or len(told) <= least)

    def test_all_pairs(self):
        for p in TOOLS:
            for q in TOOLS:
                for skips in (3, None):
                    self.check(p, q, skips, 4)

    def test_rows_that_are_left_out(self):
        for tool in TOOLS:
            for at in range(len(tool)):
                for skips in (3, None):
                    self.check(tool, tool.without(at), skips, 8)

    def test_doors_that_learn_in_the_same_way(self):
        """They open for the newest card with some marks only, so that stories are long."""
        source = random.Random(18)
        lengths = []
        for tool in TOOLS[:12]:
            rows = [row for row in tool.rows if row.word not in ("same", "last", "elder")]
            lots = source.sample(LOTS, 2)
            first, second = (Tool(3, [*rows, Row("same", tests_for(lot))]) for lot in lots)
            for skips in (0, 1, 2, 3, None):
                self.check(first, second, skips, 12)
                lengths.append(len(parting(first, second, skips) or ()))
        self.assertGreater(max(lengths), 5)

    def test_a_door_that_counts(self):
        """It only opens when it has counted up to some far card."""
        lots = [(), ("a",), ("b",), ("a", "b")]
        slower = [Row("far", tests_for(lot), deeds_to(lots[(at + 1) - 4 * (at == 3)]), False) for at, lot in enumerate(lots)]
        for lot in lots:
            tool = Tool(3, [*slower, Row("same", tests_for(lot))])
            told = parting(Tool(3, slower), tool, None)
            # Each time four cards are given, of which the last one is tried; and it is tried once more in the end.
            steps = lots.index(lot) or 4
            self.assertEqual((told.given, len(told)), (4 * steps, 5 * steps + 1))
            self.check(Tool(3, slower), tool, None, 16)


class ToldBack(unittest.TestCase):
    def some_seen(self, source, tool, keep):
        """12 events that are seen of a story with 6 cards at a door."""
        while True:
            events = []
            while len(events) < 24:
                given = events.count("give")
                choices = ["house"] + ["try"] * 4 + ["give"] * (given < 6) if given else ["give"]
                event = source.choice(choices)
                events.append(f"try {source.randint(1, given)}" if event == "try" else event)
            seen = [sight for sight in sights(tool, events) if not sight.startswith("try") or source.random() < keep][:12]
            if len(seen) == 12 and seen.count("give") == 6:
                return seen

    def check(self, tool, terms, seen):
        found = fits(tool, terms, seen), numbers(tool, terms, seen), surely_tried(tool, terms, seen)
        self.assertEqual(found, told_back(tool, terms, seen), (str(tool), str(terms), seen))
        return found[0]

    def test_what_is_seen_of_the_doors(self):
        source = random.Random(19)
        for tool in TOOLS:
            for terms in WIDEST:
                seen = self.some_seen(source, tool, 0.5)
                self.assertEqual((len(seen), seen.count("give")), (12, 6))
                fitted = self.check(tool, terms, seen)
                self.assertTrue(fitted or terms.skips is not None)

    def test_other_terms(self):
        source = random.Random(20)
        found = []
        for tool in TOOLS:
            seen = self.some_seen(source, tool, 0.3)
            for terms in (Terms(0, True, True), Terms(1, True, True), Terms(3), Terms(None, False, True), Terms(None, True)):
                found.append(self.check(tool, terms, seen))
        self.assertEqual(set(found), {True, False})

    def test_several_doors(self):
        source = random.Random(21)
        for terms in WIDEST:
            for _ in range(4):
                seen = self.some_seen(source, source.choice(TOOLS), 0.5)
                expected = tuple(at for at, tool in enumerate(TOOLS) if told_back(tool, terms, seen)[0])
                self.assertEqual(fitting(TOOLS, terms, seen), expected)

    def test_six_cards_ahead_of_all_tries(self):
        for tool in TOOLS:
            for answers in (["open"] * 6, ["shut"] * 6, ["open", "shut"] * 3):
                seen = ["give"] * 6 + [f"try {card} {answer}" for card, answer in zip((6, 5, 4, 3, 2, 1), answers)]
                for terms in (*WIDEST, Terms(0, True, True)):
                    self.check(tool, terms, seen)


if __name__ == "__main__":
    unittest.main()
