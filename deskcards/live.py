"""Live doors: a tool, a story that goes on, and what can be taken back."""

from deskcards.common import is_sequence
from deskcards.errors import InvalidEvent, Refused
from deskcards.plays import play
from deskcards.stories import Story, is_try


def results(events, opened):
    """What each event returns: for a try the next one of these answers, otherwise None."""
    found = []
    tries = 0
    for event in events:
        if is_try(event):
            found.append(opened[tries])
            tries += 1
        else:
            found.append(None)
    return tuple(found)


class Live:
    """A door at work."""

    def __init__(self, tool):
        self._tool = tool
        self._story = Story()
        self._played = play(tool, self._story)
        # For each change that can be taken back the tool, the story and the play ahead of it.
        self._past = ()

    @property
    def tool(self):
        """The tool at work."""
        return self._tool

    @property
    def story(self):
        """The events so far."""
        return self._story

    @property
    def played(self):
        """What came of the story at the tool."""
        return self._played

    def do(self, event):
        """Do an event; whether the door opened for a try, otherwise None."""
        return self._go_on([event])[0]

    def several(self, events):
        """Do all events or none; what each of them returned."""
        try:
            return self._go_on(events)
        except InvalidEvent as e:
            raise Refused(e.at - len(self._story) if is_sequence(events) else 0) from e

    def change(self, tool):
        """Play the same story at another tool."""
        self._move(tool, self._story)

    def undo(self):
        """Take back the last change; whether there was one."""
        if not self._past:
            return False
        self._tool, self._story, self._played = self._past[-1]
        self._past = self._past[:-1]
        return True

    def within(self, work):
        """Call some work with the door, and get its result; behind that the door is as it was before."""
        tool, story, played, past = self._tool, self._story, self._played, self._past
        try:
            return work(self)
        finally:
            self._tool, self._story, self._played, self._past = tool, story, played, past

    def _go_on(self, events):
        """Do all events or none, as one change; what each of them returns."""
        tries = len(self._played.opened)
        self._move(self._tool, self._story.more(events))
        return results(events, self._played.opened[tries:])

    def _move(self, tool, story):
        """Change to another tool and story, so that it can be taken back."""
        played = play(tool, story)
        self._past = (*self._past, (self._tool, self._story, self._played))
        self._tool, self._story, self._played = tool, story, played

    def __len__(self):
        return len(self._past)
