"""Doors and stories that several tests use, and the faults told as the document tells them."""

import random

from deskcards.rows import Row
from deskcards.tools import Tool
from values import LINES


def plain():
    return Tool.read("\n".join(LINES))


def slow():
    return Tool.read("\n".join([*LINES, "last open"]))


# Doors with marks, with elder cards, with rows for the house's card, and such that do little.
TEXTS = (
    "window 1",
    "window 2\nsame open\nnext open\nnear open\nfar open\nlast open\nelder open",
    "window 1\nsame open\nnext do learn open\nhouse do learn open",
    "window 2\nsame open\nnext do learn open\nnear do learn shut\nlast open\nhouse do learn open",
    "window 2\nnext do learn open\nfar open\nlast if not marked a open\nelder open",
    "window 3\nsame open\nnext do learn then clear a open\nnear do learn then mark a open\nlast if marked a open\nfar shut",
    "window 2\nsame if marked a open\nnext do learn then mark a open\nnear do learn then clear a open\nelder open",
    "window 1\nsame if not marked a open\nnext open\nfar do learn then mark a shut\nhouse if marked a do learn then clear a open",
    "window 2\nsame if marked b open\nnext if not marked a do learn then mark a open\nnext do learn then mark b then clear a shut"
    "\nnear if marked b do learn then clear b open\nfar if marked a open\nlast if marked a and marked b open\nhouse open",
    "window 3\nfar if not marked a do learn then mark a shut\nfar if marked a do learn then clear a open\nnear open\nnext shut"
    "\nsame if marked a open\nelder if not marked a open\nlast shut\nhouse if not marked a do learn then mark a open",
)


def doors():
    return [plain(), slow(), *[Tool.read(text) for text in TEXTS]]


def some_tool(source, rows, marks, window=None):
    """A tool with at most so many rows and marks out of a source of numbers."""
    names = ("a", "b", "c")[:marks]
    made = []
    for _ in range(source.randint(rows // 2, rows)):
        word = source.choice(("same", "next", "next", "near", "near", "far", "far", "last", "elder", "house"))
        tests = []
        deeds = ["learn"] if word in ("next", "near", "far", "house") and source.random() < 0.65 else []
        for name in names:
            tests += source.choice(([], [f"marked {name}"], [f"not marked {name}"]))
            if deeds:
                deeds += source.choice(([], [f"mark {name}"], [f"clear {name}"]))
        made.append(Row(word, tests, deeds, word == "house" or source.random() < 0.6))
    return Tool(window or source.randint(1, 3), made)


def some_tools(seed, many, rows, marks, window=None):
    source = random.Random(seed)
    return [some_tool(source, rows, source.randint(0, marks) if window is None else marks, window) for _ in range(many)]


def all_events(many, cards):
    """All stories with so many events and at most so many cards, as lists."""
    stories = [[]]
    for _ in range(many):
        stories = [
            story + [event]
            for story in stories
            for event in ["give"] * (story.count("give") < cards) + ["house"] * ("give" in story)
            + [f"try {card}" for card in range(1, story.count("give") + 1)]
        ]
    return stories


def row_of_the_house(tool, marks):
    """The number of the first row for the house's card whose tests are fulfilled, as [8] tells it."""
    for at, row in enumerate(tool.rows):
        tests = [(test.split(" ")[-1] in marks) == (not test.startswith("not")) for test in row.tests]
        if row.word == "house" and all(tests):
            return at
    return None


def put_house(tool, number, marks, newest):
    """The number, the marks and the row behind an event `house`, as [5], [6] and [8] tell it."""
    at = row_of_the_house(tool, marks) if newest > number else None
    if at is None:
        return number, marks, None
    marks = set(marks)
    for deed in tool.rows[at].deeds:
        verb, _, name = deed.partition(" ")
        if verb == "learn":
            number = newest
        elif verb == "mark":
            marks = marks | {name}
        else:
            marks = marks - {name}
    return number, tuple(sorted(marks)), at


def never_opens(tool, number, marks, newest):
    """Whether the newest card would never open: looked at for far more tries than there are numbers and marks."""
    for _ in range(20):
        opens, number, marks, _ = tool.answer(number, marks, newest)
        if opens:
            return False
    return True


def played_in_the_document(tool, events):
    """Number, marks, opened, done and met, each event looked at by itself as [12] tells it."""
    number, marks, done, met, opens_at = 0, (), [], [], {}
    for at, event in enumerate(events):
        newest = list(events[:at + 1]).count("give")
        row = None
        if event == "house":
            number, marks, row = put_house(tool, number, marks, newest)
        elif event != "give":
            opens_at[at], number, marks, row = tool.answer(number, marks, int(event[4:]))
            met += [(at, fault) for fault in faults_of_try(events, opens_at, at, newest)]
        done.append(row)
        if newest and never_opens(tool, number, marks, newest):
            met.append((at, "stuck"))
    return number, marks, tuple(opens_at.values()), tuple(done), tuple(sorted(met))


def faults_of_try(events, opens_at, at, newest):
    """The faults but for stuck that are met at a try, for the events ahead of it and whether the door opened at them."""
    card = int(events[at][4:])
    openings = [(other, int(events[other][4:])) for other, opens in opens_at.items() if opens and other < at]
    own = [other for other, tried in openings if tried == card]
    if not opens_at[at]:
        return (["shut"] + ["out"] * bool(own)) * (card == newest)
    houses = [list(events[:other]).count("give") for other in range(at) if events[other] == "house"]
    return (
        ["behind"] * any(tried > card for _, tried in openings)
        + ["both"] * bool(own and any(tried < card and other > max(own) for other, tried in openings))
        + ["told"] * any(given > card for given in houses)
    )
