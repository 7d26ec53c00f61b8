"""[15] what a door bears: windows, skips, and rows that do not matter or do harm."""

import itertools
import random
import unittest

from deskcards.bearing import mends, most_skips, needless, safe_windows
from deskcards.deciding import faults, happens
from deskcards.errors import InvalidFault
from deskcards.terms import Terms
from deskcards.tools import Tool
from doors import doors, plain, slow, some_tools
from values import any_values

FAULTS = ("behind", "both", "out", "shut", "stuck", "told")
BOOLS = (False, True)
ALL_TERMS = [Terms(*each) for each in itertools.product((0, 1, 2, 3, None), BOOLS, BOOLS)]
ASKED = (safe_windows, most_skips, needless, mends)


def happening(tool, terms, wanted):
    return [fault for fault in faults(tool, terms) if fault in wanted]


def safe_windows_in_the_document(tool, terms, wanted):
    return tuple(window for window in (1, 2, 3) if not happening(tool.at_window(window), terms, wanted))


def most_skips_in_the_document(tool, terms, wanted):
    safe = {skips: not happening(tool, terms.but(skips=skips), wanted) for skips in (0, 1, 2, 3, None)}
    if safe[None]:
        return "any"
    fitting = [skips for skips in (0, 1, 2, 3) if all(safe[less] for less in range(skips + 1))]
    return max(fitting) if fitting else None


def needless_in_the_document(tool, terms, wanted):
    same = happening(tool, terms, wanted)
    return tuple(at for at in range(len(tool)) if happening(tool.without(at), terms, wanted) == same)


def mends_in_the_document(tool, terms, wanted):
    return tuple(at for at in range(len(tool)) if not happening(tool.without(at), terms, wanted))


class Examples(unittest.TestCase):
    def test_the_example_of_the_document(self):
        self.assertEqual(
            (
                most_skips(plain(), Terms(0), ["shut"]), safe_windows(plain(), Terms(1), ["shut"]),
                needless(plain(), Terms(0), ["shut"]), mends(slow(), Terms(0, elder=True), ["both"]),
            ),
            (2, (2, 3), (2, 3), (4,)),
        )

    def test_safe_windows(self):
        self.assertEqual(safe_windows(plain(), Terms(0), ["shut"]), (1, 2, 3))
        self.assertEqual(safe_windows(plain(), Terms(2), ["shut"]), (3,))
        self.assertEqual(safe_windows(plain(), Terms(3), ["shut", "stuck"]), ())
        # The window of the tool itself does not matter.
        self.assertEqual(safe_windows(plain().at_window(1), Terms(2), ["shut"]), (3,))
        self.assertEqual(safe_windows(plain().at_window(20), Terms(), ["shut"]), ())
        # A smaller window may be the better one.
        tool = Tool.read("window 3\nsame open\nnext open\nnear shut\nfar open")
        self.assertEqual(safe_windows(tool, Terms(), ["shut"]), (1,))

    def test_most_skips(self):
        for window in (1, 2, 3):
            tool = plain().at_window(window)
            self.assertEqual(most_skips(tool, Terms(0), ["shut"]), window - 1)
        # Up to 3, though a door bears more, but not any number.
        for window in (4, 5, 6):
            self.assertEqual(most_skips(plain().at_window(window), Terms(0), ["stuck"]), 3)
        self.assertEqual(most_skips(plain(), Terms(0, elder=True), ["behind"]), "any")
        self.assertEqual(most_skips(plain(), Terms(0, elder=True), ["behind", "both", "out"]), "any")
        self.assertIsNone(most_skips(slow(), Terms(0, elder=True), ["both"]))
        self.assertIsNone(most_skips(Tool(3), Terms(3), ["shut"]))
        # 0 is an answer, too.
        self.assertEqual(most_skips(plain().at_window(1), Terms(None), ["shut"]), 0)
        self.assertIs(type(most_skips(plain().at_window(1), Terms(None), ["shut"])), int)

    def test_the_skips_of_the_terms_do_not_matter(self):
        for skips in (None, 0, 1, 3):
            self.assertEqual(most_skips(plain(), Terms(skips), ["shut"]), 2)
            self.assertEqual(most_skips(slow(), Terms(skips), ["both"]), "any")
            self.assertIsNone(most_skips(slow(), Terms(skips, True), ["both"]))

    def test_needless(self):
        self.assertEqual(needless(plain(), Terms(0), ["shut"]), (2, 3))
        self.assertEqual(needless(plain(), Terms(1), ["shut"]), (3,))
        self.assertEqual(needless(plain(), Terms(3), ["shut"]), (0, 1, 2, 3))
        self.assertEqual(needless(slow(), Terms(0, elder=True), ["behind", "both"]), (0, 1, 2, 3))

    def test_the_same_ones_must_happen(self):
        # Without the row for the last card another one of the wanted faults happens.
        tool = Tool.read("window 1\nnext do learn shut\nsame open\nlast open")
        self.assertEqual(faults(tool, Terms(0, elder=True)), ("behind", "both", "shut"))
        self.assertNotIn(2, needless(tool, Terms(0, elder=True), ["shut", "both"]))
        self.assertIn(2, needless(tool, Terms(0, elder=True), ["shut"]))
        self.assertNotIn(0, needless(tool, Terms(0, elder=True), ["shut", "stuck"]))

    def test_mends(self):
        self.assertEqual(mends(slow(), Terms(0, elder=True), ["both", "behind"]), (4,))
        self.assertEqual(mends(plain(), Terms(3), ["shut"]), ())
        # Also rows of a door at which none happens.
        self.assertEqual(mends(plain(), Terms(0), ["shut"]), (2, 3))
        twice = Tool.read("window 1\nnext shut\nnext shut\nnext do learn open\nsame open")
        self.assertEqual(mends(twice, Terms(0), ["shut"]), ())
        self.assertEqual(mends(twice.without(0), Terms(0), ["shut"]), (0,))

    def test_no_faults_wanted(self):
        for tool in doors():
            for terms in (Terms(0), Terms(None, True, True)):
                for wanted in ([], ()):
                    self.assertEqual(safe_windows(tool, terms, wanted), (1, 2, 3))
                    self.assertEqual(most_skips(tool, terms, wanted), "any")
                    self.assertEqual(needless(tool, terms, wanted), tuple(range(len(tool))))
                    self.assertEqual(mends(tool, terms, wanted), tuple(range(len(tool))))

    def test_a_door_without_rows(self):
        self.assertEqual(needless(Tool(1), Terms(0), ["shut"]), ())
        self.assertEqual(mends(Tool(1), Terms(0), ["shut"]), ())


class Searches(unittest.TestCase):
    def check(self, tool, terms, wanted):
        case = (str(tool), str(terms), wanted)
        self.assertEqual(safe_windows(tool, terms, wanted), safe_windows_in_the_document(tool, terms, wanted), case)
        self.assertEqual(most_skips(tool, terms, wanted), most_skips_in_the_document(tool, terms, wanted), case)
        self.assertEqual(needless(tool, terms, wanted), needless_in_the_document(tool, terms, wanted), case)
        self.assertEqual(mends(tool, terms, wanted), mends_in_the_document(tool, terms, wanted), case)

    def test_doors(self):
        for tool in doors():
            for terms in ALL_TERMS[::4]:
                for wanted in (["shut"], ["behind", "both"], ("told",), list(FAULTS)):
                    self.check(tool, terms, wanted)

    def test_some_tools(self):
        source = random.Random(3)
        for tool in some_tools(14, 60, 8, 2):
            wanted = source.sample(FAULTS, source.randint(1, 4))
            self.check(tool, source.choice(ALL_TERMS), wanted)

    def test_all_three_kinds_of_answers_are_found(self):
        found = {most_skips(tool, Terms(0, True), [fault]) for tool in doors() for fault in FAULTS}
        self.assertLessEqual({"any", None, 0, 2}, found)


class Arguments(unittest.TestCase):
    def test_by_name(self):
        self.assertEqual(safe_windows(wanted=["shut"], terms=Terms(1), tool=plain()), (2, 3))
        self.assertEqual(most_skips(wanted=["shut"], terms=Terms(1), tool=plain()), 2)
        self.assertEqual(needless(wanted=["shut"], terms=Terms(0), tool=plain()), (2, 3))
        self.assertEqual(mends(wanted=["shut"], terms=Terms(0), tool=plain()), (2, 3))

    def test_no_faults(self):
        for value in any_values() + ["Shut", "", "any", ["shut"], ("shut", "both"), None, 0]:
            if value in FAULTS:
                continue
            for asked in ASKED:
                for wanted in ([value], (value,), ["shut", value], ("both", "shut", value), [value, "stuck"]):
                    with self.assertRaises(InvalidFault, msg=repr((asked, wanted))):
                        asked(plain(), Terms(3), wanted)
                    with self.assertRaises(InvalidFault):
                        asked(Tool(1), Terms(0), wanted)

    def test_faults_may_be_told_twice_and_in_any_order(self):
        for asked in ASKED:
            one = asked(slow(), Terms(3, True), ["both", "shut"])
            self.assertEqual(asked(slow(), Terms(3, True), ("shut", "both", "shut")), one)

    def test_arguments_do_not_change(self):
        tool, terms, wanted = slow(), Terms(1, True), ["both", "shut", "both"]
        for asked in ASKED:
            first = asked(tool, terms, wanted)
            self.assertEqual((tool, terms, wanted), (slow(), Terms(1, True), ["both", "shut", "both"]))
            self.assertEqual(asked(tool, terms, wanted), first)

    def test_kinds(self):
        for asked in (safe_windows, needless, mends):
            for wanted in ([], ["shut"], ["both"]):
                self.assertIs(type(asked(plain(), Terms(3, True), wanted)), tuple)
        self.assertIs(happens(plain(), Terms(0), "shut"), False)


if __name__ == "__main__":
    unittest.main()
