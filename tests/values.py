"""Values that several tests use."""

from deskcards.desk import Desk
from deskcards.errors import InvalidRow, InvalidText, NoRow
from deskcards.live import Live
from deskcards.plays import play
from deskcards.rows import Row
from deskcards.stories import Story
from deskcards.terms import Terms
from deskcards.tools import Tool

LINES = ["window 3", "same open", "next do learn open", "near do learn open", "far shut"]


def deep(value):
    """The value in lists and tuples, nested eight deep."""
    for _ in range(4):
        value = ([value],)
    return value


def any_values():
    """Values of each kind that `any value` names."""
    return [
        0, 1, 2, -1, 10 ** 30, True, False, None, "", " ", "x", "0", "1", "same", "learn", "window", "give",
        "marked a", "mark a", [], (), [0], [None], [[]], ["x"], ("same",), ["learn"], [True], deep(1), deep("learn"),
        Row("same"), Tool(1), Terms(), [Row("same")], (Row("same"), 1), [Tool(1)], (Terms(),),
        InvalidRow("word"), InvalidText(0), NoRow(0), [NoRow(0)],
        "try 1", "give; try 1", "-", "shut", "stuck", "behind", Story(), Story(["give"]), [Story()], (Story(),),
        Live(Tool(1)), Desk(), play(Tool(1), Story(["give"])), [Live(Tool(1))], (Desk(),),
    ]
