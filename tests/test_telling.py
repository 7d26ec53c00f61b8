"""[17] what can be told of a door by what was seen; against plain searches over stories of a few cards."""

import itertools
import random
import re
import unittest

from deskcards.errors import InvalidSeen
from deskcards.telling import fits, fitting, numbers, surely_tried
from deskcards.terms import Terms
from deskcards.tools import Tool
from doors import all_events, doors, plain, slow, some_tools
from searches import all_seen, seen_in_stories, sights, told_back
from values import any_values, deep

BOOLS = (False, True)
ALL_TERMS = [Terms(*each) for each in itertools.product((0, 1, 2, 3, None), BOOLS, BOOLS)]
ALL = Tool.read("window 2\nsame open\nnext open\nnear open\nfar open\nlast open\nelder open")
HOUSE = Tool.read("window 1\nsame open\nnext do learn open\nhouse do learn open")


def asked(tool, terms, seen):
    return fits(tool, terms, seen), numbers(tool, terms, seen), surely_tried(tool, terms, seen)


def first_wrong_in_the_document(seen):
    """The number of the first value that is nothing seen or not possible, as [17] tells it, or None."""
    given = 0
    for at, value in enumerate(seen):
        tried = re.fullmatch("try ([1-9][0-9]?) (open|shut)", value, re.ASCII) if isinstance(value, str) else None
        if isinstance(value, str) and value == "give":
            given += 1
        elif not (tried and int(tried[1]) <= given) and not (isinstance(value, str) and value == "house" and given):
            return at
    return None


class Examples(unittest.TestCase):
    def check(self, tool, terms, seen, found, cards):
        """The numbers and the surely tried cards; no numbers if it does not fit."""
        seen = seen.split("; ") if seen else []
        self.assertEqual(asked(tool, terms, seen), (found != (), found, cards), (str(terms), seen))
        self.assertEqual(asked(tool, terms, tuple(seen)), (found != (), found, cards))

    def test_the_example_of_the_document(self):
        some = ["give", "give", "try 1 shut"]
        self.assertIs(fits(plain(), Terms(1), some), False)
        self.assertEqual(numbers(plain(), Terms(1, elder=True), some), (2,))
        self.assertEqual(surely_tried(plain(), Terms(1, elder=True), some), (1, 2))

    def test_no_events(self):
        for each in doors():
            for terms in ALL_TERMS:
                self.check(each, terms, "", (0,), ())

    def test_further_tries_behind(self):
        self.check(plain(), Terms(0), "give", (0, 1), ())
        self.check(Tool(1), Terms(0), "give", (0,), ())
        self.check(plain(), Terms(), "give; give", (0, 1, 2), ())
        self.check(plain(), Terms(), "give; give; try 2 open; give", (2, 3), (2,))

    def test_further_tries_ahead(self):
        # No card was tried ahead of the first give.
        self.check(plain(), Terms(0), "give; try 1 shut", (), ())
        later = Tool.read("window 1\nnext do learn shut\nsame open")
        self.check(later, Terms(0), "give; try 1 open", (1,), (1,))
        self.check(later, Terms(0), "give; try 1 shut", (1,), (1,))
        self.check(later, Terms(0), "give; try 1 open; try 1 shut", (), ())

    def test_further_tries_in_between(self):
        marks = Tool.read("window 1\nnext if not marked a do learn then mark a shut\nnext do learn then clear a open\nsame shut")
        self.check(marks, Terms(), "give; give; try 2 open", (2,), (1, 2))
        self.check(marks, Terms(), "give; try 1 shut; give; try 2 open", (2,), (1, 2))
        self.check(marks, Terms(), "give; try 1 open", (), ())
        self.check(marks, Terms(), "give; give; try 2 shut; give; try 3 open", (), ())

    def test_cards_that_were_skipped(self):
        # A card must have been tried if the next one was given and no skips are let.
        self.check(plain(), Terms(0), "give; give", (1, 2), (1,))
        self.check(plain(), Terms(0), "give; give; give", (2, 3), (1, 2))
        self.check(plain(), Terms(1), "give; give", (0, 1, 2), ())
        self.check(plain(), Terms(1), "give; give; give", (1, 2, 3), ())
        self.check(plain(), Terms(1), "give; give; try 2 open; give; give", (2, 3, 4), (2,))
        self.check(plain(), Terms(2), "give; give; give", (0, 1, 2, 3), ())
        self.check(plain(), Terms(2), "give; give; give; give; try 4 shut", (), ())
        self.check(plain(), Terms(3), "give; give; give; give; try 4 shut", (0,), (4,))
        self.check(plain(), Terms(), "give; give; give; give; try 4 shut", (0,), (4,))
        # A seen try of any card is enough for the terms, also of one that does not open.
        self.check(Tool(1), Terms(0), "give; try 1 shut; give", (0,), (1,))
        self.check(Tool(1), Terms(0), "give; give; give", (0,), (1, 2))

    def test_elder_cards(self):
        self.check(plain(), Terms(1), "give; give; try 1 open", (), ())
        self.check(plain(), Terms(1, True), "give; give; try 1 open", (1, 2), (1,))
        self.check(plain(), Terms(1, True), "give; give; try 2 open; try 1 open", (), ())
        self.check(slow(), Terms(1, True), "give; give; try 2 open; try 1 open", (2,), (1, 2))
        self.check(slow(), Terms(1), "give; give; try 2 open; try 1 open", (), ())
        # A try of the newest card is none of an elder one.
        self.check(slow(), Terms(1), "give; try 1 open; give; try 2 open", (2,), (1, 2))

    def test_unseen_tries_of_elder_cards(self):
        step = Tool.read("window 2\nnext do learn shut\nsame open")
        for terms in (Terms(2), Terms(2, True)):
            # The first card may have been tried when it was the newest one.
            self.check(step, terms, "give; give; try 2 open", (2,), (1, 2))
        # Behind that it may have been tried unseen only if elder cards are let.
        self.check(step, Terms(2), "give; give; try 2 shut; try 2 shut", (0,), (2,))
        self.check(step, Terms(2, True), "give; give; try 2 shut; try 2 shut", (0, 1, 2), (2,))
        self.check(step, Terms(2), "give; give; try 2 shut; try 1 open", (), ())
        self.check(step, Terms(2, True), "give; give; try 2 shut; try 1 open", (1, 2), (1, 2))
        # And what the terms ask for ahead of the second card cannot be made up for.
        self.check(step, Terms(0, True), "give; give; try 2 shut; try 2 shut", (), ())
        self.check(step, Terms(0, True), "give; give; try 2 shut; give; try 3 shut", (3,), (1, 2, 3))

    def test_an_elder_card_brings_the_door_on(self):
        step = Tool.read("window 1\nnext do learn open")
        for terms, found, cards in ((Terms(1), (), ()), (Terms(1, True), (2,), (1, 2))):
            # The second card is far at first, and the next one at last.
            self.check(step, terms, "give; give; try 2 shut; try 2 open", found, cards)
            self.check(step, terms.but(skips=0), "give; give; try 2 shut; try 2 open", (), ())

    def test_the_card_of_the_house(self):
        for skips in (0, 1, None):
            self.check(HOUSE, Terms(skips), "give; house", (), ())
            self.check(HOUSE, Terms(skips, house=True), "give; house", (1,), ())
            self.check(HOUSE, Terms(skips, house=True), "give; house; try 1 open", (1,), (1,))
            self.check(HOUSE, Terms(skips, house=True), "give; try 1 shut; house", (), ())
            self.check(HOUSE.without(2), Terms(skips, house=True), "give; house", (0, 1), ())
        # The house's card is no card that was tried, and there are none that were not seen.
        self.check(HOUSE, Terms(0, house=True), "give; house; give", (1, 2), (1,))
        self.check(HOUSE, Terms(1, house=True), "give; give; try 2 open", (2,), (1, 2))
        self.check(HOUSE, Terms(1, house=True), "give; give; house; try 2 open", (2,), (2,))
        self.check(HOUSE, Terms(1, True, True), "give; give; house; try 1 open", (), ())

    def test_the_card_of_the_house_behind_unseen_tries(self):
        marks = Tool.read("window 1\nnext do learn then mark a open\nhouse if not marked a do learn open\nsame open")
        self.check(marks, Terms(1, house=True), "give; give; house", (1, 2), ())
        self.check(marks, Terms(1, house=True), "give; give; house; try 2 shut", (), ())
        self.check(marks, Terms(1, True, True), "give; give; house; try 1 open", (1, 2), (1,))

    def test_where_nothing_fits(self):
        for terms in ALL_TERMS:
            for seen in ("give; try 1 open", "give; give; try 2 open", "give; try 1 shut; give; try 2 open; give"):
                self.check(Tool(2), terms, seen, (), ())
            self.check(plain(), terms, "give; try 1 shut", (), ())
            self.check(plain(), terms, "give; try 1 open; try 1 shut; give; give", (), ())

    def test_all_open(self):
        self.check(ALL, Terms(None, True), "give; give; give; try 1 open; try 3 open; try 2 open", (0,), (1, 2, 3))
        self.check(ALL, Terms(None, True), "give; give; give; try 1 open; try 3 shut; try 2 open", (), ())

    def test_fitting(self):
        some = ["give", "give", "try 2 open", "try 1 open"]
        tools = [plain(), slow(), ALL, Tool(1), slow()]
        for sequence in (tools, tuple(tools)):
            self.assertEqual(fitting(sequence, Terms(1, True), some), (1, 2, 4))
            self.assertEqual(fitting(sequence, Terms(1), some), ())
            self.assertEqual(fitting(sequence, Terms(0, True), some), (1, 2, 4))
            self.assertEqual(fitting(sequence, Terms(1, True), tuple(some[:3])), (0, 1, 2, 4))
            self.assertEqual(fitting(sequence, Terms(1), []), (0, 1, 2, 3, 4))
        self.assertEqual(fitting([slow(), slow()], Terms(1, True), some), (0, 1))
        for none in ([], ()):
            self.assertEqual(fitting(none, Terms(1), some), ())
            self.assertEqual(fitting(none, Terms(1), []), ())


class Searches(unittest.TestCase):
    def test_stories_that_are_really_played(self):
        """With two cards no more than four further tries are of any use."""
        every = all_seen(4, 2)
        for tool in doors():
            found = seen_in_stories(tool, 8, 2, 4)
            self.assertLessEqual(set(found), set(every))
            for terms in (Terms(0), Terms(0, True, True), Terms(1, False, True), Terms(None, True)):
                for seen in every:
                    told = [(number, cards) for story, number, cards in found.get(seen, []) if terms.lets(story)]
                    self.assertEqual(asked(tool, terms, seen), (
                        told != [],
                        tuple(sorted({number for number, _ in told})),
                        tuple(sorted(set.intersection(*[cards for _, cards in told]))) if told else (),
                    ), (str(tool), str(terms), seen))

    def test_all_that_can_be_seen_of_doors(self):
        every = all_seen(4, 3)
        for tool in doors():
            for terms in ALL_TERMS[1::3]:
                for seen in every:
                    self.assertEqual(asked(tool, terms, seen), told_back(tool, terms, seen), (str(tool), str(terms), seen))

    def test_what_is_seen_of_stories(self):
        """Stories in which some tries are not seen always fit, with the number in the end and the cards that were tried."""
        source = random.Random(31)
        stories = all_events(7, 4)[::37]
        for tool in some_tools(32, 150, 9, 2):
            events = source.choice(stories)
            seen = [sight for sight in sights(tool, events) if not sight.startswith("try") or source.random() < 0.6]
            for terms in source.sample(ALL_TERMS, 4) + [Terms(None, True, True)]:
                self.assertEqual(asked(tool, terms, seen), told_back(tool, terms, seen), (str(tool), str(terms), seen))
            self.assertTrue(fits(tool, Terms(None, True, True), seen))

    def test_other_doors_than_those_that_were_seen(self):
        source = random.Random(33)
        stories = all_events(8, 4)[::997]
        tools = some_tools(34, 60, 8, 2)
        found = []
        for _ in range(40):
            seen = sights(source.choice(tools), source.choice(stories))
            seen = [sight for sight in seen if not sight.startswith("try") or source.random() < 0.6]
            terms = source.choice(ALL_TERMS)
            expected = tuple(at for at, tool in enumerate(tools) if told_back(tool, terms, seen)[0])
            self.assertEqual(fitting(tools, terms, seen), expected, (str(terms), seen))
            found.append(len(expected))
        self.assertTrue({0, 60} < set(found))

    def test_more_is_let_more_fits(self):
        source = random.Random(35)
        every = all_seen(6, 3)
        for tool in doors() + some_tools(36, 30, 9, 2):
            for seen in source.sample(every, 10):
                for terms in source.sample(ALL_TERMS, 3):
                    fewer, less, surely = asked(tool, terms, seen)
                    for more in (terms.but(elder=True), terms.but(house=True), terms.but(skips=None)):
                        found = asked(tool, more, seen)
                        self.assertLessEqual(fewer, found[0])
                        self.assertLessEqual(set(less), set(found[1]))
                        if fewer:
                            self.assertLessEqual(set(found[2]), set(surely))


class Wrong(unittest.TestCase):
    def wrong(self, at, seen):
        for call in (
            lambda: fits(plain(), Terms(), seen), lambda: numbers(Tool(1), Terms(0), seen),
            lambda: surely_tried(plain(), Terms(None, True, True), seen), lambda: fitting([plain()], Terms(), seen),
            lambda: fitting([], Terms(), seen=seen),
        ):
            with self.assertRaises(InvalidSeen, msg=repr(seen)) as caught:
                call()
            self.assertEqual(caught.exception.at, at, seen)

    def test_no_sequence(self):
        for value in any_values() + ["give", "give; give", "try 1 open", "house"]:
            if not isinstance(value, (list, tuple)):
                self.wrong(0, value)

    def test_elements_of_any_value(self):
        for value in any_values() + [["give"], ("give",), ["try 1 open"], deep("give"), deep("try 1 open")]:
            if value == "give":
                continue
            self.wrong(0, [value])
            self.wrong(1, ("give", value))
            self.wrong(2, ["give", "try 1 open", value, "nothing"])
            self.wrong(3, ["give", "give", "house", value, value])

    def test_tries_without_an_answer(self):
        for value in ("try 1", "try 2", "try", "try 1 ", "try 1 opens", "try 1 Open", "try 1 none", "try 1 True"):
            self.wrong(2, ["give", "give", value])

    def test_answers_where_there_are_none(self):
        for value in ("give open", "give shut", "house open", "house shut", "open", "shut", " open", "give ", " give"):
            self.wrong(1, ["give", value, "give"])
            self.wrong(0, [value])

    def test_strings_that_are_nothing_seen(self):
        for value in ("", " ", "try 1 open ", " try 1 open", "try  1 open", "try 1  open", "try open", "try  open",
                      "try 1 open open", "try 1 shut open", "try 1 openshut", "try 1open", "try1 open", "try 01 open",
                      "try 0 open", "try -1 open", "try +1 shut", "try a open", "try 1\nopen", "try 1 open\n", "Try 1 open",
                      "open 1 try", "try 100 open", "try 1.0 open", "try 1_0 open", "try \u0661 open", "try 1 1 open",
                      "try 1; open", "give; give", "Give", "HOUSE", "houses", "gives"):
            self.wrong(1, ["give", value])
            self.wrong(12, ["give"] * 12 + [value, "try 99 open"])

    def test_what_is_not_possible_there(self):
        self.wrong(0, ["try 1 open"])
        self.wrong(0, ["try 1 shut", "give"])
        self.wrong(0, ["house"])
        self.wrong(0, ["house", "give"])
        self.wrong(1, ["give", "try 2 shut", "give"])
        self.wrong(4, ["give", "try 1 open", "give", "house", "try 3 shut", "try 4 open"])
        # Whether it fits or is let does not matter.
        self.wrong(3, ["give", "try 1 shut", "house", "try 2 open"])

    def test_the_first_wrong_one_is_told(self):
        pool = ["give", "house", "try 1 open", "try 2 shut", "try 1", "try 0 open", "house open", None]
        for many in range(5):
            for seen in itertools.product(pool, repeat=many):
                at = first_wrong_in_the_document(seen)
                if at is None:
                    self.assertEqual(asked(plain(), Terms(), list(seen)), told_back(plain(), Terms(), seen))
                else:
                    with self.assertRaises(InvalidSeen) as caught:
                        fits(plain(), Terms(), list(seen))
                    self.assertEqual(caught.exception.at, at, seen)


class Arguments(unittest.TestCase):
    def test_by_name(self):
        some = ["give", "give", "try 1 shut"]
        terms = Terms(1, elder=True)
        self.assertIs(fits(seen=some, terms=terms, tool=plain()), True)
        self.assertEqual(numbers(seen=some, terms=terms, tool=plain()), (2,))
        self.assertEqual(surely_tried(seen=some, terms=terms, tool=plain()), (1, 2))
        self.assertEqual(fitting(seen=some, terms=terms, tools=[plain(), slow()]), (0,))

    def test_kinds(self):
        for seen in ([], ["give", "try 1 open"], ["give", "try 1 shut"]):
            self.assertIs(type(fits(plain(), Terms(), seen)), bool)
            for result in (numbers(plain(), Terms(), seen), surely_tried(plain(), Terms(), seen),
                           fitting([plain()], Terms(), seen)):
                self.assertIs(type(result), tuple)
                self.assertTrue(all(type(each) is int for each in result))

    def test_arguments_do_not_change(self):
        tools, terms, seen = [plain(), slow()], Terms(1, True), ["give", "give", "try 1 open", "house"]
        first = [asked(tool, terms, seen) for tool in tools], fitting(tools, terms, seen)
        self.assertEqual((tools, terms), ([plain(), slow()], Terms(1, True)))
        self.assertEqual(seen, ["give", "give", "try 1 open", "house"])
        for tool in some_tools(37, 10, 8, 2):
            asked(tool, terms, ["give", "try 1 open"])
        self.assertEqual(([asked(tool, terms, seen) for tool in tools], fitting(tools, terms, seen)), first)


if __name__ == "__main__":
    unittest.main()
