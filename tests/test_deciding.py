"""[13] what happens in all stories, [14] why it can be told; against plain searches over stories of a few cards."""

import itertools
import random
import unittest

from deskcards.deciding import comes, faults, fewest, happens, standings, story
from deskcards.errors import InvalidFault, NoRow
from deskcards.plays import play
from deskcards.rows import Row
from deskcards.stories import Story
from deskcards.terms import Terms
from deskcards.tools import Tool
from doors import doors, plain, slow, some_tools
from long_stories import LONG
from searches import all_standings, all_stories, played_stories
from values import any_values

FAULTS = ("behind", "both", "out", "shut", "stuck", "told")
BOOLS = (False, True)
ALL_TERMS = [Terms(*each) for each in itertools.product((0, 1, 2, 3, None), BOOLS, BOOLS)]


class Told(unittest.TestCase):
    """What can be seen of a told story by playing it."""

    def check_story(self, tool, terms, fault, length):
        told = story(tool, terms, fault)
        case = (str(tool), str(terms), fault)
        if length is None:
            self.assertIsNone(told, case)
            return
        self.assertIsInstance(told, Story)
        self.assertTrue(terms.lets(told), case)
        met = [at for at, other in play(tool, told).met if other == fault]
        self.assertEqual(met, [len(told) - 1], case)
        self.assertEqual(len(told), length, case)

    def check_agreement(self, tool, terms):
        """All that is told of faults agrees, and told stories are stories that meet them."""
        lengths = {}
        for fault in FAULTS:
            length = fewest(tool, terms, fault)
            self.check_story(tool, terms, fault, length)
            self.assertIs(happens(tool, terms, fault), length is not None)
            if length is not None:
                lengths[fault] = length
        self.assertEqual(faults(tool, terms), tuple(sorted(lengths)))
        return lengths

    def check_least(self, tool, terms, least, cards):
        """What is told agrees with the least numbers of events in stories with at most so many cards."""
        lengths = self.check_agreement(tool, terms)
        for fault in FAULTS:
            case = (str(tool), str(terms), fault)
            if fault not in lengths:
                self.assertNotIn(fault, least, case)
            elif story(tool, terms, fault).given <= cards:
                self.assertEqual(lengths[fault], least.get(fault), case)
            else:
                # A story of more cards is told only if none of fewer cards is as short.
                self.assertLess(lengths[fault], least.get(fault, 1000), case)


class Searches(Told):
    def test_stories_that_are_really_played(self):
        for tool in doors():
            for terms in ALL_TERMS[::3]:
                least, rows = played_stories(tool, terms, 6, 3)
                lengths = self.check_agreement(tool, terms)
                for fault in FAULTS:
                    told = story(tool, terms, fault)
                    if told is not None and len(told) <= 6 and told.given <= 3:
                        self.assertEqual(least.get(fault), len(told), (str(tool), str(terms), fault))
                    elif fault in least:
                        self.assertLess(lengths[fault], least[fault], (str(tool), str(terms), fault))
                self.assertLessEqual(rows, {at for at in range(len(tool)) if comes(tool, terms, at)})

    def test_doors_with_all_terms(self):
        for tool in doors():
            for terms in ALL_TERMS:
                least, rows = all_stories(tool, terms, 5)
                self.check_least(tool, terms, least, 5)
                self.assertLessEqual(rows, {at for at in range(len(tool)) if comes(tool, terms, at)})

    def test_some_tools(self):
        source = random.Random(5)
        for tool in some_tools(6, 250, 9, 2):
            terms = source.choice(ALL_TERMS)
            least, _ = all_stories(tool, terms, 5)
            self.check_least(tool, terms, least, 5)

    def test_rows_and_standings(self):
        source = random.Random(7)
        for tool in doors() + some_tools(8, 150, 9, 2):
            for terms in source.sample(ALL_TERMS, 3):
                expected, rows = all_standings(tool, terms, 14)
                self.assertEqual(standings(tool, terms), expected, (str(tool), str(terms)))
                for at in range(len(tool)):
                    self.assertIs(comes(tool, terms, at), at in rows, (str(tool), str(terms), at))


class Long(Told):
    """Stories of many cards, where a search with few cards finds nothing."""

    def test_lengths_that_were_searched_without_leaving_anything_out(self):
        for terms, fault, length, lines in LONG:
            tool, terms = Tool.read("\n".join(lines)), Terms.read(terms)
            self.check_story(tool, terms, fault, length)
            self.check_agreement(tool, terms)

    def test_wide_windows(self):
        for window in (4, 5, 8):
            tool = plain().at_window(window)
            for skips in range(window + 2):
                expected = ("shut", "stuck") if skips >= window else ()
                self.assertEqual(faults(tool, Terms(skips)), expected)
            self.assertEqual(fewest(tool, Terms(window), "stuck"), window + 1)
            self.assertEqual(fewest(tool, Terms(), "shut"), window + 2)

    def test_many_skips(self):
        self.assertEqual(faults(plain(), Terms(20, True, True)), ("shut", "stuck", "told"))
        self.assertEqual(faults(plain(), Terms(20, True)), ("shut", "stuck"))
        self.assertEqual(fewest(slow(), Terms(30, True), "both"), 5)

    def test_the_answer_for_any_number_of_skips_is_that_of_many(self):
        for tool in some_tools(9, 60, 10, 2):
            for elder, house in itertools.product(BOOLS, BOOLS):
                for fault in FAULTS:
                    many = fewest(tool, Terms(25, elder, house), fault)
                    self.assertEqual(fewest(tool, Terms(None, elder, house), fault), many)

    def test_more_is_let_more_happens(self):
        source = random.Random(4)
        for tool in some_tools(10, 60, 10, 2):
            for terms in source.sample(ALL_TERMS, 4):
                happening = set(faults(tool, terms))
                for more in (terms.but(elder=True), terms.but(house=True), terms.but(skips=None)):
                    self.assertLessEqual(happening, set(faults(tool, more)))


class Examples(unittest.TestCase):
    def test_faults(self):
        self.assertEqual(
            (faults(plain(), Terms(2, elder=True)), faults(plain(), Terms(3)), fewest(plain(), Terms(3), "stuck")),
            ((), ("shut", "stuck"), 4),
        )
        self.assertEqual(faults(slow(), Terms(0, elder=True)), ("behind", "both"))
        self.assertEqual(len(story(slow(), Terms(0, elder=True), "behind")), 5)
        self.assertEqual(fewest(slow(), Terms(0, elder=True), "both"), 6)

    def test_standings_of_the_document(self):
        self.assertEqual(standings(plain(), Terms(0)), (((), 0, 0), ((), 1, 1)))
        self.assertEqual(len(standings(plain(), Terms(3))), 9)

    def test_standings_are_bounded(self):
        tool = Tool.read("window 2\nsame open")
        self.assertEqual(standings(tool, Terms(0)), tuple(((), *each) for each in (
            (0, 0), (1, 0), (1, 1), (2, 0), (2, 1), (3, 0), (3, 1))))
        self.assertEqual(standings(tool, Terms(1)), tuple(((), *each) for each in (
            (0, 0), (1, 0), (1, 1), (2, 0), (2, 1), (2, 2), (3, 0), (3, 1), (3, 2))))
        self.assertEqual(standings(tool, Terms()), tuple(((), *each) for each in (
            (0, 0), (1, 0), (1, 1), (2, 0), (2, 1), (3, 0), (3, 1))))
        self.assertEqual(standings(tool.at_window(1), Terms()), tuple(((), *each) for each in (
            (0, 0), (1, 0), (1, 1), (2, 0), (2, 1))))

    def test_standings_with_marks(self):
        tool = Tool.read("window 1\nnext if not marked a do learn then mark a open\nsame open")
        self.assertEqual(standings(tool, Terms(0)), (
            ((), 0, 0), ((), 1, 1), (("a",), 0, 0), (("a",), 1, 0), (("a",), 1, 1), (("a",), 2, 0), (("a",), 2, 1)))

    def test_standings_with_the_house(self):
        tool = Tool.read("window 1\nsame open\nhouse do learn open")
        self.assertIn(((), 0, 1), standings(tool, Terms(0, house=True)))
        self.assertNotIn(((), 0, 1), standings(tool, Terms(0)))
        self.assertIn(((), 0, 2), standings(tool, Terms(1, house=True)))
        self.assertNotIn(((), 0, 2), standings(tool, Terms(house=True)))

    def test_kinds(self):
        for terms in (Terms(0), Terms(None, True, True)):
            found = standings(slow(), terms)
            self.assertIs(type(found), tuple)
            self.assertTrue(all(type(each) is tuple and type(each[0]) is tuple for each in found))
            self.assertEqual(list(found), sorted(set(found)))
            self.assertIs(type(faults(slow(), terms)), tuple)
            self.assertIs(type(happens(slow(), terms, "shut")), bool)
            self.assertIs(type(comes(slow(), terms, 0)), bool)

    def test_comes(self):
        self.assertIs(comes(plain(), Terms(1), 2), True)
        self.assertIs(comes(plain(), Terms(0, elder=True), 2), False)
        self.assertEqual([comes(plain(), Terms(2), at) for at in range(4)], [True, True, True, False])
        self.assertEqual([comes(slow(), Terms(3), at) for at in range(5)], [True, True, True, True, False])
        self.assertTrue(comes(slow(), Terms(0, elder=True), 4))

    def test_rows_that_never_come(self):
        tool = Tool(2, [
            Row("next", (), ["learn", "mark a"]),
            Row("next", ["marked a"]),
            Row("same", ["not marked a"]),
            Row("near", ["marked b"], ["learn"]),
            Row("same", ["marked a", "not marked a"]),
            Row("elder", ["not marked b"]),
            Row("house"),
            Row("last", ["not marked a"]),
        ])
        for terms in ALL_TERMS:
            expected = [True, False, False, False, False, terms.elder, terms.house, False]
            self.assertEqual([comes(tool, terms, at) for at in range(8)], expected, str(terms))

    def test_elder_cards_there_must_be(self):
        """A door at the first card has no last one, and one at the second card has no elder one."""
        for word, needed in (("last", 2), ("elder", 3)):
            once = [Row("next", ["not marked a"], ["learn", "mark a"]), Row(word, ["marked a"])]
            self.assertFalse(comes(Tool(1, once), Terms(elder=True), 1))
            twice = [
                Row("next", ["not marked a"], ["learn", "mark a"]),
                Row("next", ["marked a", "not marked b"], ["learn", "mark b"]),
                Row(word, ["marked a"]),
            ]
            self.assertIs(comes(Tool(1, twice), Terms(elder=True), 2), needed == 2)
            self.assertTrue(comes(Tool(1, [*twice, Row("far", ["marked b"], ["learn"])]), Terms(elder=True), 2))

    def test_none_where_nothing_meets_a_fault(self):
        good = Tool.read("window 1\nsame open\nnext do learn open\nfar do learn open")
        for terms in ALL_TERMS:
            for fault in FAULTS:
                # A guest gets in behind the house's card as long as the door does not learn its number.
                tool = Tool(1, [Row("far", opens=False)]) if fault == "told" else good
                self.assertIsNone(story(tool, terms, fault))
                self.assertIsNone(fewest(tool, terms, fault))
                self.assertIs(happens(tool, terms, fault), False)
            self.assertEqual(faults(good, terms), ("told",) if terms.elder and terms.house else ())

    def test_a_door_without_rows(self):
        self.assertEqual(faults(Tool(1), Terms(0)), ("shut", "stuck"))
        self.assertEqual(story(Tool(1), Terms(0), "stuck").events, ("give",))
        self.assertEqual(story(Tool(1), Terms(0), "shut").events, ("give", "try 1"))

    def test_a_door_for_all(self):
        rows = [Row(word) for word in ("same", "next", "near", "far", "last", "elder")]
        self.assertEqual(faults(Tool(2, rows), Terms(0)), ())
        self.assertEqual(faults(Tool(2, rows), Terms(0, True)), ("behind", "both"))
        self.assertEqual(faults(Tool(2, rows), Terms(0, True, True)), ("behind", "both", "told"))
        lengths = [fewest(Tool(2, rows), Terms(1, True, True), fault) for fault in FAULTS]
        self.assertEqual(lengths, [4, 5, None, None, None, 4])

    def test_out_by_the_house(self):
        tool = Tool.read("window 1\nnext open\nhouse do learn open")
        self.assertEqual(story(tool, Terms(0, house=True), "out").events, ("give", "try 1", "house", "try 1"))
        self.assertIsNone(story(tool, Terms(elder=True), "out"))


class Arguments(unittest.TestCase):
    def test_by_name(self):
        tool, terms = slow(), Terms(0, elder=True)
        self.assertIs(happens(fault="both", terms=terms, tool=tool), True)
        self.assertEqual(faults(terms=terms, tool=tool), ("behind", "both"))
        self.assertEqual(len(story(fault="both", terms=terms, tool=tool)), 6)
        self.assertEqual(fewest(fault="both", terms=terms, tool=tool), 6)
        self.assertIs(comes(at=4, terms=terms, tool=tool), True)
        self.assertEqual(standings(terms=Terms(0), tool=tool), (((), 0, 0), ((), 1, 1)))

    def test_no_faults(self):
        for value in any_values() + ["Shut", "shut ", "", "open", "fault", ["shut"], ("both",), None, 0, True]:
            if value in ("shut", "stuck", "behind"):
                continue
            for work in (happens, story, fewest):
                with self.assertRaises(InvalidFault, msg=repr(value)):
                    work(plain(), Terms(0), value)
                with self.assertRaises(InvalidFault):
                    work(Tool(1), Terms(None, True, True), fault=value)

    def test_no_rows(self):
        for tool in (Tool(1), plain()):
            for at in (-1, -4, len(tool), len(tool) + 1, 10 ** 20, -10 ** 20):
                for terms in (Terms(0), Terms(None, True, True)):
                    with self.assertRaises(NoRow) as caught:
                        comes(tool, terms, at)
                    self.assertEqual(caught.exception.at, at)

    def test_the_same_call_tells_the_same(self):
        tool, terms = slow(), Terms(1, True, True)
        first = [story(tool, terms, fault) for fault in FAULTS], standings(tool, terms)
        for other in some_tools(11, 5, 8, 2):
            faults(other, terms)
        self.assertEqual(([story(tool, terms, fault) for fault in FAULTS], standings(tool, terms)), first)
        self.assertEqual((tool, terms), (slow(), Terms(1, True, True)))


if __name__ == "__main__":
    unittest.main()
