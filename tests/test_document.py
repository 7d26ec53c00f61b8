"""The examples of the document as they stand, in its order, and those of README.md."""

import builtins
import doctest
import pathlib
import unittest

README = pathlib.Path(__file__).resolve().parent.parent / "README.md"

DOCUMENT = r'''
    >>> from deskcards.deciding import faults, fewest, story
    >>> from deskcards.terms import Terms
    >>> from deskcards.tools import Tool
    >>> lines = ["window 3", "same open", "next do learn open", "near do learn open", "far shut"]
    >>> plain = Tool.read("\n".join(lines))
    >>> faults(plain, Terms(2, elder=True)), faults(plain, Terms(3)), fewest(plain, Terms(3), "stuck")
    ((), ('shut', 'stuck'), 4)
    >>> slow = Tool.read("\n".join([*lines, "last open"]))
    >>> faults(slow, Terms(0, elder=True)), story(slow, Terms(0, elder=True), "behind").events
    (('behind', 'both'), ('give', 'try 1', 'give', 'try 2', 'try 1'))

    >>> plain.answer(4, (), 5), plain.answer(4, (), 8), plain.answer(4, ["m"], 3)
    ((True, 5, (), 1), (False, 4, (), 3), (False, 4, ('m',), None))

    >>> from deskcards.stories import Story
    >>> told = Story(["give", "give", "try 2", "house", "give", "try 1"])
    >>> told.given, str(told.needs), Terms(1, elder=True).lets(told), str(told.upto(3).needs)
    (3, 'skips 1 elder house', False, 'skips 1')

    >>> from deskcards.plays import play
    >>> done = play(plain, Story(["give", "try 1", "give", "give", "try 3", "try 2"]))
    >>> done.number, done.opened, done.done, done.met
    (3, (True, True, False), (None, 1, None, None, 2, None), ())
    >>> play(slow, Story.read("give; try 1; give; house; try 2; try 1; try 2")).met
    ((5, 'behind'), (5, 'told'), (6, 'both'))

    >>> from deskcards.deciding import comes, standings
    >>> standings(plain, Terms(0)), len(standings(plain, Terms(3))), comes(plain, Terms(1), 2), comes(plain, Terms(0, elder=True), 2)
    ((((), 0, 0), ((), 1, 1)), 9, True, False)

    >>> from deskcards.bearing import mends, most_skips, needless, safe_windows
    >>> most_skips(plain, Terms(0), ["shut"]), safe_windows(plain, Terms(1), ["shut"]), needless(plain, Terms(0), ["shut"]), mends(slow, Terms(0, elder=True), ["both"])
    (2, (2, 3), (2, 3), (4,))

    >>> from deskcards.comparing import alike, parting
    >>> alike(plain, slow, None), parting(plain, plain.at_window(2), 3).events, alike(plain, plain.at_window(2), 1)
    (True, ('give', 'give', 'give', 'try 3'), True)

    >>> from deskcards.telling import fits, numbers, surely_tried
    >>> some = ["give", "give", "try 1 shut"]
    >>> fits(plain, Terms(1), some), numbers(plain, Terms(1, elder=True), some), surely_tried(plain, Terms(1, elder=True), some)
    (False, (2,), (1, 2))

    >>> from deskcards.desk import Desk
    >>> desk = Desk()
    >>> desk.say("door " + " ; ".join(lines)), desk.say("do give"), desk.say("do try 1"), desk.say("number"), desk.say("faults skips any")
    ('4', 'done', 'open', '1', 'shut stuck')
'''


class Examples(unittest.TestCase):
    def setUp(self):
        # What is shown is kept there, for all tests behind these.
        self.addCleanup(vars(builtins).pop, "_", None)

    def run_examples(self, text, least):
        examples = doctest.DocTestParser().get_doctest(text, {}, "examples", None, None)
        self.assertGreaterEqual(len(examples.examples), least)
        told = []
        result = doctest.DocTestRunner(verbose=False).run(examples, out=told.append)
        self.assertEqual(result.failed, 0, "".join(told))

    def test_the_document(self):
        self.run_examples(DOCUMENT, 28)

    def test_the_readme(self):
        self.run_examples(README.read_text(), 30)


if __name__ == "__main__":
    unittest.main()
