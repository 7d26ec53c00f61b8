"""[5] what a card is for a door, [7] tools, [8] answers."""

import itertools
import unittest

from deskcards.errors import InvalidText, InvalidTool, NoRow
from deskcards.rows import Row
from deskcards.tools import Tool
from values import LINES, any_values

WORDS = ("same", "next", "near", "far", "last", "elder", "house")


def plain():
    return Tool.read("\n".join(LINES))


class Making(unittest.TestCase):
    def wrong(self, parameter, *arguments, **named):
        with self.assertRaises(InvalidTool) as caught:
            Tool(*arguments, **named)
        self.assertEqual(caught.exception.word, parameter, (arguments, named))

    def test_attributes_are_the_arguments(self):
        rows = [Row("same"), Row("next", (), ["learn"])]
        tool = Tool(3, rows)
        self.assertEqual((tool.window, tool.rows), (3, tuple(rows)))
        self.assertIs(type(tool.rows), tuple)
        self.assertEqual((Tool(1).window, Tool(1).rows, Tool(1).marks), (1, (), ()))

    def test_arguments_by_name(self):
        self.assertEqual(Tool(rows=(Row("same"),), window=2), Tool(2, [Row("same")]))
        tool = plain()
        self.assertEqual(tool.without(at=0), tool.without(0))
        self.assertEqual(tool.at_window(window=2), tool.at_window(2))
        self.assertEqual(tool.answer(card=5, marks=(), number=4), tool.answer(4, (), 5))
        self.assertEqual(Tool.read(text=str(tool)), tool)

    def test_changed_lists_change_nothing(self):
        rows = [Row("same")]
        tool = Tool(2, rows)
        rows.append(Row("next", (), ["learn", "mark a"]))
        self.assertEqual((str(tool), len(tool), tool.marks), ("window 2\nsame open", 1, ()))
        self.assertEqual(len(rows), 2)

    def test_wrong_windows(self):
        for value in any_values():
            if isinstance(value, bool) or not isinstance(value, int) or value < 1:
                self.wrong("window", value)
                self.wrong("window", value, [Row("same")])
                self.wrong("window", value, 5)
        for value in (0, -1, -20, True, "3", None, [3]):
            self.wrong("window", value)

    def test_wrong_rows(self):
        for value in any_values():
            if value not in ([], (), [Row("same")]):
                self.wrong("rows", 1, value)
            if value != Row("same"):
                self.wrong("rows", 1, [Row("same"), value])
                self.wrong("rows", 1, (value,))
        self.wrong("rows", 1, ["same open"])

    def test_windows_of_all_sizes(self):
        for window in (1, 2, 9, 10, 20, 99, 1000):
            self.assertEqual(Tool(window).window, window)

    def test_marks(self):
        rows = [
            Row("same", ["marked d", "not marked b"]),
            Row("far", ["marked d"], ["learn", "mark c", "clear a"]),
            Row("house", (), ["learn"]),
        ]
        tool = Tool(3, rows)
        self.assertEqual(tool.marks, ("a", "b", "c", "d"))
        self.assertIs(type(tool.marks), tuple)
        self.assertEqual(tool.without(1).marks, ("b", "d"))
        self.assertEqual(Tool(3, [Row("far", ["marked far"], ["learn", "mark next"])]).marks, ("far", "next"))
        self.assertEqual(plain().marks, ())

    def test_more_than_the_limits(self):
        rows = [Row("far", ["marked " + name], ["learn", "mark " + name]) for name in "abcdefghijklmno"]
        tool = Tool(50, rows)
        self.assertEqual((len(tool), len(tool.marks)), (15, 15))
        self.assertEqual(Tool.read(str(tool)), tool)


class Parts(unittest.TestCase):
    def test_len(self):
        self.assertEqual((len(plain()), len(Tool(3))), (4, 0))

    def test_index(self):
        tool = plain()
        self.assertEqual([str(tool[at]) for at in range(4)], LINES[1:])
        self.assertIs(type(tool[0]), Row)

    def test_without(self):
        tool = plain()
        for at in range(4):
            self.assertEqual(str(tool.without(at)), "\n".join(LINES[:at + 1] + LINES[at + 2:]))
        self.assertEqual(str(tool), "\n".join(LINES))
        self.assertEqual(Tool(2, [Row("same")]).without(0), Tool(2))

    def test_no_row(self):
        for tool in (plain(), Tool(3), Tool(5, [Row("same")])):
            for at in (-1, -2, -len(tool), len(tool), len(tool) + 1, -100, 100, 10 ** 30, -10 ** 30):
                if at in range(len(tool)):
                    continue
                for work in (lambda: tool[at], lambda: tool.without(at)):
                    with self.assertRaises(NoRow) as caught:
                        work()
                    self.assertEqual(caught.exception.at, at)

    def test_bools_are_no_row_numbers(self):
        for at in (True, False):
            with self.assertRaises(NoRow):
                plain()[at]
            with self.assertRaises(NoRow):
                plain().without(at)

    def test_at_window(self):
        tool = plain()
        for window in (1, 2, 3, 20):
            other = tool.at_window(window)
            self.assertEqual((other.window, other.rows), (window, tool.rows))
        self.assertEqual(tool.window, 3)
        for value in any_values():
            if isinstance(value, bool) or not isinstance(value, int) or value < 1:
                with self.assertRaises(InvalidTool) as caught:
                    tool.at_window(value)
                self.assertEqual(caught.exception.word, "window")

    def test_tools_are_not_iterable(self):
        for work in (iter, list, tuple, lambda tool: [*tool], lambda tool: Row("same") in tool):
            with self.assertRaises(TypeError):
                work(plain())
            with self.assertRaises(TypeError):
                work(Tool(1))


class Texts(unittest.TestCase):
    def wrong(self, at, text):
        with self.assertRaises(InvalidText, msg=repr(text)) as caught:
            Tool.read(text)
        self.assertEqual(caught.exception.at, at, repr(text))

    def test_texts(self):
        self.assertEqual(str(Tool(12)), "window 12")
        tool = Tool(3, [Row("same"), Row("far", ["marked a"], ["learn", "clear a"], False)])
        self.assertEqual(str(tool), "window 3\nsame open\nfar if marked a do learn then clear a shut")
        self.assertEqual(Tool.read(str(tool)), tool)
        back = Tool.read("\n".join(LINES))
        self.assertEqual((back.window, [str(row) for row in back.rows]), (3, LINES[1:]))

    def test_windows_in_texts(self):
        for window in range(1, 100):
            self.assertEqual(Tool.read(f"window {window}").window, window)

    def test_wrong_first_lines(self):
        for line in ("", " ", "window", "window ", "window 0", "window 00", "window 01", "window 05", "window 100",
                     "window 999", "window -1", "window +1", "window 1.", "window 1 ", "window  1", " window 1",
                     "Window 1", "window a", "window 1 2", "window 1_0", "window \u0663", "window \u00b2", "windows 3", "3",
                     "same open", "window3", "window 3\r", "window 0x"):
            self.wrong(0, line)
            self.wrong(0, line + "\nsame open")
            self.wrong(0, line + "\nno row\nnor this")

    def test_the_empty_text_has_one_line(self):
        self.wrong(0, "")
        self.wrong(0, "\n")
        self.wrong(0, "\nwindow 3")

    def test_the_first_wrong_line_is_told(self):
        for at in range(1, 5):
            for line in ("", "same", "window 3", "same  open", "same open ", "house shut", "last do learn open"):
                self.wrong(at, "\n".join(LINES[:at] + [line] + LINES[at:]))
                self.wrong(at, "\n".join(LINES[:at] + [line, "wrong"] + LINES[at:]))
                self.wrong(at, "\n".join(LINES[:at] + [line]))

    def test_newlines(self):
        self.wrong(1, "window 3\n")
        self.wrong(2, "window 3\nsame open\n")
        self.wrong(1, "window 3\n\nsame open")
        self.wrong(0, "window 3\rsame open")
        self.wrong(1, "window 3\nsame open\r\nnext do learn open")

    def test_long_texts(self):
        line = "far if marked wxyz and not marked wxyz and marked abcd do learn then mark wxyz then clear abcd shut"
        text = "\n".join(["window 20"] + [line] * 12)
        self.assertEqual(str(Tool.read(text)), text)

    def test_equal_tools(self):
        tool = plain()
        self.assertTrue(tool == plain())
        self.assertFalse(tool != plain())
        for other in (tool.at_window(2), tool.without(0), Tool(3), Tool(3, [tool[1], tool[0], tool[2], tool[3]])):
            self.assertFalse(tool == other)
            self.assertTrue(tool != other)

    def test_no_tool_equals_another_value(self):
        tool = Tool(1)
        for value in any_values() + [str(tool), Row("same")]:
            if not isinstance(value, Tool):
                self.assertFalse(tool == value)
                self.assertFalse(value == tool)
                self.assertTrue(tool != value)


def word_in_the_document(window, number, card):
    """The word for a card, each as [5] tells it."""
    words = [
        ("same", card == number),
        ("next", card == number + 1),
        ("near", number + 2 <= card <= number + window),
        ("far", card > number + window and card > number + 1),
        ("last", card == number - 1),
        ("elder", card < number - 1),
    ]
    fitting = [word for word, fits in words if fits]
    assert len(fitting) == 1
    return fitting[0]


class Answers(unittest.TestCase):
    def test_the_example_of_the_document(self):
        tool = plain()
        self.assertEqual(
            (tool.answer(4, (), 5), tool.answer(4, (), 8), tool.answer(4, ["m"], 3)),
            ((True, 5, (), 1), (False, 4, (), 3), (False, 4, ("m",), None)),
        )

    def test_each_word_at_both_ends(self):
        for window in (1, 2, 3, 4, 20):
            tool = Tool(window, [Row(word, opens=word in ("near", "last", "house")) for word in WORDS])
            for number, card in itertools.product(range(0, 30), range(1, 60)):
                word = word_in_the_document(window, number, card)
                expected = (word in ("near", "last"), number, (), WORDS.index(word))
                self.assertEqual(tool.answer(number, (), card), expected, (window, number, card))

    def test_some_words(self):
        tool = Tool(3, [Row(word) for word in WORDS])
        for card, word in ((10, "same"), (11, "next"), (12, "near"), (13, "near"), (14, "far"), (99, "far"), (9, "last"),
                           (8, "elder"), (1, "elder")):
            self.assertEqual(tool.answer(10, (), card)[3], WORDS.index(word))
        tool = tool.at_window(1)
        for card, word in ((10, "same"), (11, "next"), (12, "far"), (13, "far"), (9, "last"), (8, "elder")):
            self.assertEqual(tool.answer(10, (), card)[3], WORDS.index(word))

    def test_learning(self):
        rows = [Row(word, (), ["learn"], word == "far") for word in ("next", "near", "far")]
        tool = Tool(2, rows)
        self.assertEqual(tool.answer(0, (), 1), (False, 1, (), 0))
        self.assertEqual(tool.answer(0, (), 2), (False, 2, (), 1))
        self.assertEqual(tool.answer(0, (), 3), (True, 3, (), 2))
        self.assertEqual(tool.answer(0, (), 60), (True, 60, (), 2))
        self.assertEqual(tool.answer(5, ("a",), 5), (False, 5, ("a",), None))

    def test_no_row_is_for_a_card_of_the_house(self):
        tool = Tool(3, [Row("house", (), ["learn"])])
        for card in range(1, 12):
            self.assertEqual(tool.answer(4, (), card), (False, 4, (), None))
        self.assertEqual(Tool(3).answer(0, (), 1), (False, 0, (), None))

    def test_the_first_row_that_fits(self):
        tool = Tool(3, [
            Row("next", ["marked a", "marked b"], (), False),
            Row("same", opens=False),
            Row("next", ["marked a", "not marked b"], ["learn"]),
            Row("next", ["not marked a"], ["learn", "mark a"], False),
            Row("next", opens=True),
            Row("next", opens=False),
        ])
        self.assertEqual(tool.answer(1, (), 2), (False, 2, ("a",), 3))
        self.assertEqual(tool.answer(1, ["a"], 2), (True, 2, ("a",), 2))
        self.assertEqual(tool.answer(1, ("a", "b"), 2), (False, 1, ("a", "b"), 0))
        self.assertEqual(tool.answer(1, ("b",), 2), (False, 2, ("a", "b"), 3))
        self.assertEqual(tool.without(3).answer(1, ("b",), 2), (True, 1, ("b",), 3))
        self.assertEqual(tool.answer(1, (), 1), (False, 1, (), 1))

    def test_a_test_that_is_not_fulfilled(self):
        tool = Tool(3, [Row("same", ["marked a", "not marked a"])])
        for marks in ((), ("a",), ("b",)):
            self.assertEqual(tool.answer(1, marks, 1), (False, 1, marks, None))

    def test_names_within_names(self):
        tool = Tool(3, [Row("same", ["marked ab"]), Row("same", ["not marked a"], (), False)])
        self.assertEqual(tool.answer(1, ("a",), 1), (False, 1, ("a",), None))
        self.assertEqual(tool.answer(1, ("b",), 1), (False, 1, ("b",), 1))
        self.assertEqual(tool.answer(1, ("abc",), 1), (False, 1, ("abc",), 1))
        self.assertEqual(tool.answer(1, ("ab",), 1), (True, 1, ("ab",), 0))

    def test_deeds_one_behind_the_other(self):
        for deeds, marks, behind in (
            (["learn", "mark a"], (), ("a",)),
            (["learn", "mark a"], ("a",), ("a",)),
            (["learn", "clear a"], (), ()),
            (["learn", "clear a"], ("a", "b"), ("b",)),
            (["mark a", "learn", "clear a"], (), ()),
            (["clear a", "mark a", "learn"], ("a",), ("a",)),
            (["mark a", "clear b", "learn"], ["b", "c"], ("a", "c")),
            (["mark z", "mark b", "learn"], ["x", "a"], ("a", "b", "x", "z")),
            (["learn", "learn"], ["b", "a"], ("a", "b")),
        ):
            tool = Tool(2, [Row("far", (), deeds)])
            self.assertEqual(tool.answer(0, marks, 7), (True, 7, behind, 0))

    def test_marks_come_back_as_a_lot(self):
        tool = Tool(2, [Row("same")])
        for marks in (["c", "a", "b"], ("b", "c", "a")):
            for card in (3, 4):
                answer = tool.answer(3, marks, card)
                self.assertIs(type(answer), tuple)
                self.assertIs(type(answer[2]), tuple)
                self.assertEqual(answer[2], ("a", "b", "c"))

    def test_arguments_and_tools_do_not_change(self):
        tool = Tool(2, [Row("next", (), ["learn", "mark a", "clear b"])])
        marks = ["c", "b"]
        first = tool.answer(0, marks, 1)
        self.assertEqual((marks, str(tool)), (["c", "b"], "window 2\nnext do learn then mark a then clear b open"))
        self.assertEqual(tool.answer(0, marks, 1), first)
        marks.clear()
        self.assertEqual(first, (True, 1, ("a", "c"), 0))

    def test_whether_is_a_bool(self):
        self.assertIs(plain().answer(4, (), 5)[0], True)
        self.assertIs(plain().answer(4, (), 8)[0], False)
        self.assertIs(plain().answer(4, (), 1)[0], False)


if __name__ == "__main__":
    unittest.main()
