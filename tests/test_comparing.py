"""[16] where two doors differ, with newest cards only; against plain searches over stories of a few cards."""

import random
import unittest

from deskcards.comparing import alike, parting
from deskcards.plays import play
from deskcards.rows import Row
from deskcards.stories import Story
from deskcards.terms import Terms
from deskcards.tools import Tool
from doors import all_events, doors, plain, slow, some_tool, some_tools
from searches import least_difference

SKIPS = (0, 1, 2, 3, None)
OPENS = ("same open", "next do learn open")


def tool(window, *lines):
    return Tool.read("\n".join([f"window {window}", *lines]))


class Compared(unittest.TestCase):
    def check(self, p, q, skips):
        """What can be seen of the answer by playing it; the length of the story, or None."""
        told = parting(p, q, skips)
        case = (str(p), str(q), skips)
        self.assertIs(alike(p, q, skips), told is None, case)
        if told is None:
            return None
        self.assertIs(type(told), Story)
        self.assertTrue(Terms(skips, False, True).lets(told), case)
        first, second = play(p, told).opened, play(q, told).opened
        self.assertEqual(first[:-1], second[:-1], case)
        self.assertNotEqual(first[-1], second[-1], case)
        self.assertTrue(told.events[-1].startswith("try "), case)
        return len(told)

    def check_both_ways(self, p, q, skips):
        length = self.check(p, q, skips)
        self.assertEqual(self.check(q, p, skips), length)
        return length

    def check_least(self, p, q, skips, cards):
        """The answer agrees with the least difference in stories of at most so many cards."""
        length = self.check_both_ways(p, q, skips)
        least = least_difference(p, q, skips, cards)
        case = (str(p), str(q), skips)
        if length is None or parting(p, q, skips).given <= cards:
            self.assertEqual(length, least, case)
        else:
            # One of more cards may be told even if there is one as short with fewer.
            self.assertTrue(least is None or length <= least, case)


class Examples(Compared):
    def test_the_example_of_the_document(self):
        self.assertIs(alike(plain(), slow(), None), True)
        self.assertEqual(parting(plain(), plain().at_window(2), 3).events, ("give", "give", "give", "try 3"))
        self.assertIs(alike(plain(), plain().at_window(2), 1), True)

    def test_a_door_and_itself(self):
        for each in doors():
            for skips in SKIPS:
                self.assertIs(alike(each, each, skips), True)
                self.assertIsNone(parting(each, each, skips))
                self.assertIs(alike(each, Tool.read(str(each)), skips), True)
                self.assertIsNone(parting(Tool.read(str(each)), each, skips))

    def test_doors_without_rows(self):
        for skips in SKIPS:
            self.assertTrue(alike(Tool(1), Tool(3), skips))
            self.assertTrue(alike(Tool(1), Tool(2, [Row("next", opens=False)]), skips))
            self.assertEqual(self.check_both_ways(Tool(1), Tool(1, [Row("next")]), skips), 2)

    def test_only_by_the_card_of_the_house(self):
        first, second = tool(1, "same open", "house do learn open"), tool(1, "same open")
        for skips in SKIPS:
            self.assertEqual(parting(first, second, skips).events, ("give", "house", "try 1"))
            self.assertEqual(self.check_both_ways(first, second, skips), 3)
            # The answers to the house's card itself are not compared.
            self.assertIs(alike(tool(1, "house do learn open"), tool(1), skips), True)
            self.assertIs(alike(tool(1, "same open", "house open"), tool(1, "same open"), skips), True)

    def test_the_card_of_the_house_where_skips_are_let(self):
        # One door learns the newest card but one, and so the newest one is next for it and far for the other.
        first, second = tool(1, *OPENS, "house do learn open"), tool(1, *OPENS)
        self.assertIsNone(self.check_both_ways(first, second, 0))
        for skips in SKIPS[1:]:
            self.assertEqual(parting(first, second, skips).events, ("give", "give", "house", "try 2"))

    def test_only_far_ahead(self):
        first, second = plain(), Tool.read(str(plain()).replace("far shut", "far open"))
        for skips in (0, 1, 2):
            self.assertIsNone(self.check_both_ways(first, second, skips))
        for skips in (3, None):
            self.assertEqual(parting(first, second, skips).events, ("give", "give", "give", "give", "try 4"))
            self.assertIs(alike(plain(), plain().without(3), skips), True)
        # Without a skip, too, if the door stays behind.
        first, second = tool(3, "far open"), tool(3)
        self.assertEqual(self.check_both_ways(first, second, 0), 8)
        self.assertEqual(parting(first, second, 0).given, 4)

    def test_only_by_more_skips_than_are_let(self):
        for window in (2, 3):
            first, second = tool(window, *OPENS, "near do learn open"), tool(window, *OPENS)
            self.assertIsNone(self.check_both_ways(first, second, 0))
            self.assertEqual(self.check_both_ways(first, second, 1), 3)
            wider = tool(window, *OPENS, "near do learn open", "far do learn open")
            for skips in SKIPS:
                expected = None if skips is not None and skips < window else window + 2
                self.assertEqual(self.check_both_ways(first, wider, skips), expected)

    def test_other_windows(self):
        for skips in SKIPS:
            for less, more in ((1, 2), (1, 3), (2, 3)):
                length = self.check_both_ways(plain().at_window(less), plain().at_window(more), skips)
                self.assertEqual(length, None if skips is not None and skips < less else less + 2)
        # A window in which all cards are treated alike does not matter.
        for each in (tool(1, *OPENS), tool(1, *OPENS, "near open", "far open"), Tool(1)):
            self.assertTrue(alike(each, each.at_window(3), None))

    def test_elder_cards_are_not_tried(self):
        elder = tool(2, *OPENS, "last open", "elder open")
        for skips in SKIPS:
            self.assertTrue(alike(elder, tool(2, *OPENS), skips))
        # The second card is the last one when the third one was learned; but it is not the newest one then.
        self.assertTrue(alike(tool(2, "near do learn open", "last open"), tool(2, "near do learn open"), None))

    def test_answers_of_earlier_tries_are_the_same(self):
        first = tool(1, "next if not marked a do learn then mark a shut", "next do learn open", "same open")
        second = tool(1, "next do learn shut", "same open")
        self.assertEqual(self.check_both_ways(first, second, 0), 4)
        self.assertEqual(parting(first, second, 0).events, ("give", "try 1", "give", "try 2"))

    def test_marks_with_other_names(self):
        lines = ["next if not marked a do learn then mark a open", "next do learn then clear a shut", "same if marked a open"]
        first = tool(2, *lines)
        second = tool(2, *[line.replace("marked a", "marked b").replace("mark a", "mark b").replace("clear a", "clear b")
                           for line in lines])
        self.assertEqual((first.marks, second.marks), (("a",), ("b",)))
        for skips in SKIPS:
            self.assertTrue(alike(first, second, skips))
            self.assertFalse(alike(first, tool(2, *lines[:2], "same if not marked a open"), skips))

    def test_a_long_story(self):
        """A door that counts its cards with two marks, and one that counts to two."""
        count = ["next if not marked a and not marked b do learn then mark a open",
                 "next if marked a and not marked b do learn then clear a then mark b open",
                 "next if not marked a and marked b do learn then mark a open"]
        four = tool(1, *count, "next do learn then clear a then clear b shut")
        two = tool(1, "next if not marked a do learn then mark a open", "next do learn then clear a open")
        for skips in SKIPS:
            self.assertEqual(parting(four, two, skips).events[-2:], ("give", "try 4"))
            self.assertEqual(self.check_both_ways(four, two, skips), 8)


class Searches(Compared):
    def test_stories_that_are_really_played(self):
        stories = [
            Story(events) for events in all_events(7, 7)
            if all(event in ("give", "house", f"try {events[:at].count('give')}") for at, event in enumerate(events))
        ]
        played = [(each, [play(each, story).opened for story in stories]) for each in doors()]
        for skips in SKIPS:
            let = [Terms(skips, False, True).lets(story) for story in stories]
            for at, (p, first) in enumerate(played):
                for q, second in played[at + 1:]:
                    differ = [may and one != other for may, one, other in zip(let, first, second)]
                    length = self.check(p, q, skips)
                    self.assertIs(any(differ), length is not None and length <= 7, (str(p), str(q), skips))

    def test_doors(self):
        for p in doors():
            for q in doors():
                for skips in SKIPS:
                    self.check_least(p, q, skips, 5)

    def test_some_tools(self):
        source = random.Random(21)
        tools = some_tools(22, 600, 9, 2)
        for p, q in zip(tools[::2], tools[1::2]):
            self.check_least(p, q, source.choice(SKIPS), 8)

    def test_doors_with_a_row_more_or_less(self):
        """Doors that are much alike, so that long stories are needed."""
        source = random.Random(23)
        for p in some_tools(24, 120, 10, 2):
            rows = list(p.rows)
            for at in range(len(rows)):
                self.check_least(p, p.without(at), source.choice(SKIPS), 6)
            source.shuffle(rows)
            self.check_least(p, Tool(p.window, rows), source.choice(SKIPS), 6)

    def test_many_cards(self):
        """Doors that open by a far card only, so that few differences are found with few cards."""
        source = random.Random(25)
        found = []
        for _ in range(150):
            tools = []
            for _ in range(2):
                made = some_tool(source, 10, 2, source.randint(1, 3))
                tools.append(Tool(made.window, [
                    Row(row.word, row.tests, row.deeds, row.word in ("far", "house")) for row in made.rows]))
            skips = source.choice(SKIPS)
            self.check_least(*tools, skips, 14)
            found.append(self.check(*tools, skips))
        self.assertGreater(max(each or 0 for each in found), 7)

    def test_both_answers_are_found(self):
        tools = some_tools(26, 40, 4, 1)
        found = {alike(p, q, 1) for p in tools for q in tools if str(p) != str(q)}
        self.assertEqual(found, {True, False})

    def test_more_skips_more_differences(self):
        tools = some_tools(27, 80, 9, 2)
        for p, q in zip(tools[::2], tools[1::2]):
            lengths = [self.check(p, q, skips) or 1000 for skips in SKIPS]
            self.assertEqual(lengths, sorted(lengths, reverse=True))

    def test_any_number_of_skips_is_as_many(self):
        tools = some_tools(28, 80, 9, 2)
        for p, q in zip(tools[::2], tools[1::2]):
            self.assertEqual(self.check(p, q, None), self.check(p, q, 30))


class Arguments(unittest.TestCase):
    def test_by_name(self):
        self.assertIs(alike(skips=1, q=plain().at_window(2), p=plain()), True)
        self.assertEqual(len(parting(skips=3, q=plain().at_window(2), p=plain())), 4)

    def test_the_same_call_tells_the_same(self):
        p, q = plain(), plain().at_window(2)
        first = parting(p, q, 3)
        for each in some_tools(29, 10, 8, 2):
            parting(each, p, 2)
        self.assertEqual(parting(p, q, 3), first)
        self.assertEqual((p, q), (plain(), plain().at_window(2)))

    def test_wide_windows_and_many_skips(self):
        self.assertEqual(len(parting(plain().at_window(20), plain().at_window(19), 20)), 21)
        self.assertTrue(alike(plain().at_window(20), plain().at_window(19), 18))
        self.assertEqual(len(parting(plain().at_window(20), plain().at_window(5), None)), 7)


if __name__ == "__main__":
    unittest.main()
