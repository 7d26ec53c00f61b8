"""Desks: commands for a live door."""

from deskcards.deciding import faults
from deskcards.errors import InvalidCommand
from deskcards.live import Live
from deskcards.terms import Terms
from deskcards.tools import Tool


def listed(words):
    """Words in a row, or what is said if there are none."""
    return " ".join(words) if words else "none"


def say_number(live):
    """The door's number."""
    return str(live.played.number)


def say_marks(live):
    """The door's marks."""
    return listed(live.played.marks)


def say_met(live):
    """The different faults met so far."""
    return listed(sorted({fault for _, fault in live.played.met}))


def say_undo(live):
    """Whether there was something to take back."""
    return "undone" if live.undo() else "nothing"


def say_do(live, event):
    """Whether the door opened, or that the event is done."""
    opened = live.do(event)
    if opened is None:
        return "done"
    return "open" if opened else "shut"


def say_faults(live, text):
    """The faults that happen in all stories that these terms let."""
    return listed(faults(live.tool, Terms.read(text)))


COMMANDS = {"number": say_number, "marks": say_marks, "met": say_met, "undo": say_undo}
COMMANDS_WITH_TEXT = {"do": say_do, "faults": say_faults}


def is_form(word, text):
    """Whether a command may have this first word and this text behind it."""
    if text == "":
        return word in COMMANDS
    return word == "door" or word in COMMANDS_WITH_TEXT


class Desk:
    """Executes commands, and keeps a live door."""

    def __init__(self):
        self.live = None

    def say(self, command):
        """What a command, any value, results in."""
        if not isinstance(command, str) or "\n" in command or "" in command.split(" "):
            raise InvalidCommand()
        word, _, text = command.partition(" ")
        if not is_form(word, text) or (self.live is None and word != "door"):
            raise InvalidCommand()
        if word == "door":
            return self._door(text)
        if text == "":
            action = COMMANDS[word]
            return action(self.live)
        action_with_text = COMMANDS_WITH_TEXT[word]
        return action_with_text(self.live, text)

    def _door(self, text):
        """Get a new live door with the tool that this text tells."""
        tool = Tool.read(text.replace(" ; ", "\n"))
        self.live = Live(tool)
        return str(len(tool))
