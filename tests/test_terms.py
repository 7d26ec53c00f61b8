"""[10] terms."""

import itertools
import re
import unittest

from deskcards.errors import InvalidTerms, InvalidText
from deskcards.stories import Story
from deskcards.terms import Terms
from values import any_values

BOOLS = (False, True)


def lets_as_in_the_document(terms, events):
    """Whether terms let events, looked at one by one as [10] tells it."""
    for at, event in enumerate(events):
        given = events[:at].count("give")
        tried = [int(other[4:]) for other in events[:at] if other.startswith("try ")]
        untried = [card for card in range(1, given + 1) if all(card > other for other in tried)]
        if event == "give" and terms.skips is not None and len(untried) > terms.skips:
            return False
        if event.startswith("try ") and event != f"try {given}" and not terms.elder:
            return False
        if event == "house" and not terms.house:
            return False
    return True


def all_events(many):
    """All stories with so many events, as lists."""
    stories = [[]]
    for _ in range(many):
        stories = [
            story + [event]
            for story in stories
            for event in ["give"] + ["house"] * ("give" in story)
            + [f"try {card}" for card in range(1, story.count("give") + 1)]
        ]
    return stories


class Making(unittest.TestCase):
    def wrong(self, parameter, work):
        with self.assertRaises(InvalidTerms) as caught:
            work()
        self.assertEqual(caught.exception.word, parameter)

    def test_attributes_are_the_arguments(self):
        for skips, elder, house in itertools.product((None, 0, 1, 3, 99, 100), BOOLS, BOOLS):
            for terms in (Terms(skips, elder, house), Terms(house=house, elder=elder, skips=skips)):
                self.assertEqual(terms.skips, skips)
                self.assertIs(terms.elder, elder)
                self.assertIs(terms.house, house)

    def test_defaults(self):
        self.assertEqual((Terms().skips, Terms().elder, Terms().house), (None, False, False))
        self.assertEqual((Terms(0).skips, Terms(0).elder, Terms(0).house), (0, False, False))

    def test_wrong_skips(self):
        for value in any_values():
            if value is None or (isinstance(value, int) and not isinstance(value, bool) and value >= 0):
                continue
            self.wrong("skips", lambda: Terms(value))
            self.wrong("skips", lambda: Terms(value, 1, 1))
            self.wrong("skips", lambda: Terms(2, True, True).but(skips=value))
        for value in (-1, True, False, "2", "any"):
            self.wrong("skips", lambda: Terms(value))

    def test_wrong_elder_and_house(self):
        for value in any_values():
            if isinstance(value, bool):
                continue
            self.wrong("elder", lambda: Terms(0, value))
            self.wrong("elder", lambda: Terms(None, value, value))
            self.wrong("house", lambda: Terms(0, True, value))
            self.wrong("elder", lambda: Terms().but(elder=value))
            self.wrong("house", lambda: Terms().but(house=value))

    def test_the_first_wrong_argument_is_named(self):
        bad = {"skips": -1, "elder": 1, "house": None}
        for many in (1, 2, 3):
            for names in itertools.combinations(("skips", "elder", "house"), many):
                self.wrong(names[0], lambda: Terms(**{name: bad[name] for name in names}))
                self.wrong(names[0], lambda: Terms(1).but(**{name: bad[name] for name in reversed(names)}))

    def test_but(self):
        for old in itertools.product((None, 0, 2), BOOLS, BOOLS):
            for new in itertools.product((None, 0, 5), BOOLS, BOOLS):
                for chosen in itertools.product(BOOLS, repeat=3):
                    names = ("skips", "elder", "house")
                    others = {name: value for name, value, take in zip(names, new, chosen) if take}
                    terms = Terms(*old).but(**others)
                    expected = tuple(b if take else a for a, b, take in zip(old, new, chosen))
                    self.assertEqual((terms.skips, terms.elder, terms.house), expected)

    def test_but_does_not_change_the_terms(self):
        terms = Terms(1, elder=True)
        terms.but(skips=None, elder=False, house=True)
        self.assertEqual(str(terms), "skips 1 elder")


class Letting(unittest.TestCase):
    def lets(self, terms, *events):
        return terms.lets(Story(events))

    def test_nothing_at_all_is_let(self):
        for terms in (Terms(), Terms(0), Terms(0, True, True)):
            self.assertIs(self.lets(terms), True)

    def test_skips(self):
        two = ("give", "give", "give", "try 3", "give")
        for skips, let in ((0, False), (1, False), (2, True), (3, True), (None, True)):
            self.assertIs(self.lets(Terms(skips), *two), let)
        self.assertTrue(self.lets(Terms(0), "give", "try 1", "give", "try 2", "give"))
        self.assertFalse(self.lets(Terms(0), "give", "give"))
        self.assertTrue(self.lets(Terms(1), "give", "give"))
        self.assertFalse(self.lets(Terms(1), "give", "try 1", "give", "give", "give"))

    def test_untried_cards_below_a_tried_one_do_not_count(self):
        self.assertTrue(self.lets(Terms(1), "give", "give", "try 2", "give", "give"))
        self.assertFalse(self.lets(Terms(0), "give", "give", "try 2", "give"))
        self.assertFalse(self.lets(Terms(1, True), "give", "give", "try 1", "give", "give"))
        self.assertTrue(self.lets(Terms(2, True), "give", "give", "try 1", "give", "try 3"))

    def test_only_gives_ask_for_tried_cards(self):
        self.assertTrue(self.lets(Terms(0), "give"))
        self.assertTrue(self.lets(Terms(2), "give", "give", "give"))
        self.assertFalse(self.lets(Terms(1), "give", "give", "give"))

    def test_the_house_does_not_try_a_card(self):
        self.assertFalse(self.lets(Terms(0, house=True), "give", "house", "give"))
        self.assertTrue(self.lets(Terms(1, house=True), "give", "house", "give"))

    def test_elder(self):
        self.assertFalse(self.lets(Terms(), "give", "try 1", "give", "try 1"))
        self.assertTrue(self.lets(Terms(elder=True), "give", "try 1", "give", "try 1"))
        self.assertTrue(self.lets(Terms(), "give", "try 1", "try 1", "give", "try 2"))

    def test_house(self):
        self.assertFalse(self.lets(Terms(), "give", "house"))
        self.assertTrue(self.lets(Terms(house=True), "give", "house"))

    def test_the_story_of_the_document(self):
        told = ("give", "give", "try 2", "house", "give", "try 1")
        self.assertIs(self.lets(Terms(1, elder=True), *told), False)
        self.assertIs(self.lets(Terms(1, elder=True, house=True), *told), True)
        self.assertIs(self.lets(Terms(0, elder=True, house=True), *told), False)
        self.assertIs(self.lets(Terms(1, house=True), *told), False)
        self.assertIs(self.lets(Terms(1), *told[:3]), True)
        self.assertIs(self.lets(Terms(0), *told[:3]), False)

    def test_story_by_name(self):
        self.assertTrue(Terms().lets(story=Story(["give"])))

    def test_all_short_stories(self):
        all_terms = [Terms(*each) for each in itertools.product((None, 0, 1, 2), BOOLS, BOOLS)]
        for many in range(6):
            for events in all_events(many):
                story = Story(events)
                for terms in all_terms:
                    self.assertIs(terms.lets(story), lets_as_in_the_document(terms, events), (str(terms), events))

    def test_long_stories(self):
        events = ["give"] * 30 + ["try 30"] + ["give"] * 12 + ["house"]
        self.assertFalse(self.lets(Terms(28, house=True), *events))
        self.assertTrue(self.lets(Terms(29, house=True), *events))


class Texts(unittest.TestCase):
    def test_texts(self):
        for terms, text in (
            (Terms(), "skips any"),
            (Terms(0), "skips 0"),
            (Terms(2, elder=True), "skips 2 elder"),
            (Terms(10, house=True), "skips 10 house"),
            (Terms(None, True, True), "skips any elder house"),
            (Terms(99, True, True), "skips 99 elder house"),
        ):
            self.assertEqual(str(terms), text)
            self.assertEqual(Terms.read(text), terms)
            self.assertEqual(Terms.read(text=text), terms)

    def test_all_terms_can_be_read_back(self):
        for skips, elder, house in itertools.product([None, *range(100)], BOOLS, BOOLS):
            back = Terms.read(str(Terms(skips, elder, house)))
            self.assertEqual((back.skips, back.elder, back.house), (skips, elder, house))

    def wrong(self, text):
        with self.assertRaises(InvalidText, msg=repr(text)) as caught:
            Terms.read(text)
        self.assertEqual(caught.exception.at, 0)

    def test_other_strings(self):
        for text in ("", " ", "skips", "skips ", "any", "2", "elder", "skips 00", "skips 01", "skips 100", "skips 999",
                     "skips -1", "skips +1", "skips 1 ", " skips 1", "skips  1", "Skips 1", "skips none", "skips None",
                     "skips any any", "skips 1 2", "skips 1 house elder", "skips 1 elder elder", "skips 1 elder  house",
                     "skips 1 Elder", "skips 1 old", "skips elder", "skips elder 1", "elder skips 1", "skips 1\n",
                     "skips\n1", "skips 1\nelder", "skips \u0661", "skips \u00b2", "skips 1_0", "skips 1 elderhouse",
                     "skips 1 elder house elder", "skip 1", "skips anyelder"):
            self.wrong(text)

    def test_signs_taken_out_put_in_and_changed(self):
        form = re.compile("skips ([0-9]|[1-9][0-9]|any)( elder)?( house)?")
        for text in ("skips 10 elder house", "skips any house", "skips 5 elder"):
            for at in range(len(text) + 1):
                for sign in ("", *"015 ae\n"):
                    for other in (text[:at] + sign + text[at:], text[:at] + sign + text[at + 1:]):
                        if form.fullmatch(other):
                            self.assertEqual(str(Terms.read(other)), other)
                        else:
                            self.wrong(other)

    def test_equal_terms(self):
        self.assertTrue(Terms(1, True) == Terms(1, elder=True, house=False))
        self.assertFalse(Terms(1, True) != Terms(1, elder=True, house=False))
        different = [Terms(*each) for each in itertools.product((None, 0, 1), BOOLS, BOOLS)]
        for one, other in itertools.combinations(different, 2):
            self.assertFalse(one == other)
            self.assertTrue(one != other)

    def test_no_terms_equal_another_value(self):
        for value in any_values() + ["skips any"]:
            if not isinstance(value, Terms):
                self.assertFalse(Terms() == value)
                self.assertFalse(value == Terms())
                self.assertTrue(Terms() != value)

    def test_terms_are_not_iterable(self):
        with self.assertRaises(TypeError):
            iter(Terms())
        with self.assertRaises(TypeError):
            "elder" in Terms()


if __name__ == "__main__":
    unittest.main()
