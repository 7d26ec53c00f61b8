"""Plays: what a door does in a story, and which faults are met."""

from deskcards.stories import card_in


class Played:
    """What came of a story at a door."""

    def __init__(self, number, marks, opened, done, met):
        self.number = number
        self.marks = marks
        self.opened = tuple(opened)
        self.done = tuple(done)
        self.met = tuple(met)


def is_stuck(tool, number, marks, newest):
    """Whether the newest card would never open a door, however often it were tried."""
    standings = []
    while (number, marks) not in standings:
        standings.append((number, marks))
        opens, number, marks, _ = tool.answer(number, marks, newest)
        if opens:
            return False
    return True


class Course:
    """A play on its way: the door, the cards, and what was met so far."""

    def __init__(self, tool):
        self._tool = tool
        self.number = 0
        self.marks = ()
        self.newest = 0
        # How many cards there were when the house's card was put into the door last.
        self.housed = 0
        # For each card that opened the door the number of the event in which it did so last.
        self.opening = {}
        self.opened = []
        self.done = []
        self.met = []

    def go_on(self, event):
        """Do the next event."""
        faults = []
        row = None
        if event == "give":
            self.newest += 1
        elif event == "house":
            self.housed = self.newest
            self.number, self.marks, row = self._tool.answer_house(self.number, self.marks, self.newest)
        else:
            card = card_in(event)
            opens, self.number, self.marks, row = self._tool.answer(self.number, self.marks, card)
            faults = self._faults_of_try(card, opens)
            self.opened.append(opens)
            if opens:
                self.opening[card] = len(self.done)
        # There is a card behind each event, as the first one is a give.
        if is_stuck(self._tool, self.number, self.marks, self.newest):
            faults.append("stuck")
        self.met.extend([(len(self.done), fault) for fault in sorted(faults)])
        self.done.append(row)

    def _faults_of_try(self, card, opens):
        """The faults, but for stuck, that are met if this card is tried next and the door opens or not."""
        if not opens:
            return self._faults_of_shut_door(card)
        faults = []
        if any([other > card for other in self.opening]):
            faults.append("behind")
        if self._was_lower_since(card):
            faults.append("both")
        if self.housed > card:
            faults.append("told")
        return faults

    def _faults_of_shut_door(self, card):
        if card != self.newest:
            return []
        return ["out", "shut"] if card in self.opening else ["shut"]

    def _was_lower_since(self, card):
        """Whether a lower card opened the door since this one did so last."""
        if card not in self.opening:
            return False
        last = self.opening[card]
        return any([other < card and self.opening[other] > last for other in self.opening])


def play(tool, story):
    """Play a story at one door."""
    course = Course(tool)
    for event in story.events:
        course.go_on(event)
    return Played(course.number, course.marks, course.opened, course.done, course.met)
