"""Tools: the window and the rows of a door, and its answer to a card."""

from deskcards.common import is_integer, is_number, is_sequence, short_number
from deskcards.errors import InvalidText, InvalidTool, NoRow
from deskcards.rows import Row


def is_window(value):
    """Whether any value is a window."""
    return is_integer(value) and value >= 1


def are_rows(value):
    """Whether any value is a sequence of rows."""
    return is_sequence(value) and all([isinstance(row, Row) for row in value])


def name_in(text):
    """The name in a test or in a deed other than learn."""
    return text.rpartition(" ")[2]


def names_in(row):
    """The names in a row, as often as they occur."""
    return [name_in(text) for text in row.tests + row.deeds if text != "learn"]


def read_line(line, at):
    """The row that this line of a text tells."""
    try:
        return Row.read(line)
    except InvalidText:
        raise InvalidText(at) from None


def word_for(window, number, card):
    """What a card is for a door with this window and this number."""
    ahead = card - number
    if ahead == 0:
        return "same"
    if ahead == 1:
        return "next"
    if ahead > window:
        return "far"
    if ahead > 1:
        return "near"
    return "last" if ahead == -1 else "elder"


def is_fulfilled(test, marks):
    """Whether a door with these marks fulfils a test."""
    return (name_in(test) in marks) != test.startswith("not ")


def is_for(row, word, marks):
    """Whether a row is for cards with this word at a door with these marks."""
    return row.word == word and all([is_fulfilled(test, marks) for test in row.tests])


def marks_behind(deeds, marks):
    """The lot of the marks behind these deeds."""
    kept = set(marks)
    for deed in deeds:
        if deed.startswith("mark "):
            kept.add(name_in(deed))
        if deed.startswith("clear "):
            kept.discard(name_in(deed))
    return tuple(sorted(kept))


class Tool:
    """A door's window and its rows."""

    def __init__(self, window, rows=()):
        if not is_window(window):
            raise InvalidTool("window")
        if not are_rows(rows):
            raise InvalidTool("rows")
        self.window = window
        self.rows = tuple(rows)
        self.marks = tuple(sorted({name for row in self.rows for name in names_in(row)}))

    @classmethod
    def read(cls, text):
        """The tool with this text."""
        first, *rest = text.split("\n")
        lead, _, digits = first.partition(" ")
        window = short_number(digits)
        if lead != "window" or not is_window(window):
            raise InvalidText(0)
        return cls(window, [read_line(line, at) for at, line in enumerate(rest, start=1)])

    def without(self, at):
        """The tool without the row with this number."""
        if not self._has_row(at):
            raise NoRow(at)
        return Tool(self.window, self.rows[:at] + self.rows[at + 1:])

    def at_window(self, window):
        """The tool with another window."""
        return Tool(window, self.rows)

    def answer(self, number, marks, card):
        """Whether the door opens, its number and marks behind that, and the row that was done."""
        opens, learns, behind, at = self.deal(word_for(self.window, number, card), marks)
        return opens, card if learns else number, behind, at

    def answer_house(self, number, marks, newest):
        """The number and the marks of the door behind the house's card, and the row that was done."""
        if newest <= number:
            return number, tuple(sorted(marks)), None
        _, learns, behind, at = self.deal("house", marks)
        return newest if learns else number, behind, at

    def deal(self, word, marks):
        """Whether a card with this word opens and is learned, the marks behind it, and the row that was done."""
        for at, row in enumerate(self.rows):
            if is_for(row, word, marks):
                return row.opens, "learn" in row.deeds, marks_behind(row.deeds, marks), at
        return False, False, tuple(sorted(marks)), None

    def _has_row(self, at):
        return is_number(at) and at < len(self.rows)

    def __len__(self):
        return len(self.rows)

    def __getitem__(self, at):
        # Python would take a negative number for one from the end.
        if not self._has_row(at):
            raise NoRow(at)
        return self.rows[at]

    def __iter__(self):
        raise TypeError("a tool is not iterable")

    def __eq__(self, other):
        return isinstance(other, Tool) and str(self) == str(other)

    def __str__(self):
        return "\n".join([f"window {self.window}"] + [str(row) for row in self.rows])
