"""Where two doors differ that are given the same cards, of which only the newest one is ever tried.

A door that learns is at the newest card, and it only falls behind from then on. Once it is further behind than its
window, it does the same however far that is, until it learns again. So there are finitely many standings of both doors
to go through, those with the shortest stories first.
"""

from deskcards.deciding import Door
from deskcards.stories import Story

# A state is the number and the lot of each door, the newest card, and the newest one that was tried.
START = (((0, 0), (0, 0)), 0, 0)


class Pair:
    """Two doors at which the same story is played."""

    def __init__(self, p, q, skips):
        self.doors = (Door(p), Door(q))
        self.skips = skips

    def steps(self, state):
        """The events that are let behind a state, with whether both answers are the same and the state behind each."""
        places, newest, tried = state
        steps = []
        if self.skips is None or newest - tried <= self.skips:
            steps.append(("give", True, (places, newest + 1, tried)))
        if newest > 0:
            steps.append(("house", True, (self._behind_house(places, newest), newest, tried)))
            same, behind = self._behind_try(places, newest)
            steps.append((f"try {newest}", same, (behind, newest, newest)))
        return steps

    def _behind_house(self, places, newest):
        told = [door.behind_house(number, lot, newest) for door, (number, lot) in zip(self.doors, places)]
        return tuple([(number, lot) for number, lot, _ in told])

    def _behind_try(self, places, newest):
        """Whether both doors give the same answer to the newest card, and their places behind that."""
        told = [door.behind_try(number, lot, newest) for door, (number, lot) in zip(self.doors, places)]
        same = told[0][0] == told[1][0]
        return same, tuple([(number, lot) for _, number, lot, _ in told])

    def standing(self, state):
        """What of a state matters for all that can come."""
        places, newest, tried = state
        near = [(min(newest - number, door.window + 1), lot) for door, (number, lot) in zip(self.doors, places)]
        untried = 0 if self.skips is None else min(newest - tried, self.skips + 1)
        return tuple(near), untried


def parting_events(p, q, skips):
    """The events of a shortest story in which the doors give different answers, or None."""
    pair = Pair(p, q, skips)
    states = [START]
    stories = [()]
    # The start is left out: nothing comes back to it, and a standing like it behind a card lets more events.
    known = set()
    at = 0
    while at < len(states):
        steps = pair.steps(states[at])
        for event, same, state in steps:
            events = (*stories[at], event)
            if not same:
                return events
            standing = pair.standing(state)
            if standing not in known:
                known.add(standing)
                states.append(state)
                stories.append(events)
        at += 1
    return None


def alike(p, q, skips):
    """Whether both doors give the same answers to all newest cards, in all stories with at most so many skips."""
    return parting_events(p, q, skips) is None


def parting(p, q, skips):
    """A shortest such story in which they do not, or None."""
    events = parting_events(p, q, skips)
    return None if events is None else Story(events)
