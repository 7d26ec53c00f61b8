"""What can be told of a door by what was seen of it, although further tries may not have been seen.

Behind each thing that was seen, all standings that the door can have are kept: those that fit, and those that come of
them by further tries. There are only as many numbers as cards, so these come to an end.
"""

from deskcards.common import is_sequence
from deskcards.deciding import Door
from deskcards.errors import InvalidSeen
from deskcards.stories import card_in, first_wrong, is_try

ANSWERS = ("open", "shut")


def event_in(value):
    """The event in something seen, without its answer; of any other value something that is no event."""
    if not isinstance(value, str) or value in ("give", "house"):
        return value
    event, _, answer = value.rpartition(" ")
    return event if is_try(event) and answer in ANSWERS else None


def check(seen):
    """Raise an error if any value is not what can have been seen."""
    if not is_sequence(seen):
        raise InvalidSeen(0)
    wrong = first_wrong([event_in(value) for value in seen])
    if wrong is not None:
        raise InvalidSeen(wrong)


class Guess:
    """All standings of a door behind what was seen so far, with any further tries that the terms let.

    A standing is the number of the door, its lot, and the highest card that was tried.
    """

    def __init__(self, door, terms, spared=None):
        self.door = door
        self.terms = terms
        # A card that is never tried, whether it is seen or not.
        self.spared = spared
        self.newest = 0
        self.standings = [(0, 0, 0)]

    def go_on(self, sight):
        """Let what was seen be next, and then any further tries."""
        if sight == "give":
            behind = self._behind_give()
        elif sight == "house":
            behind = self._behind_house()
        else:
            event, _, answer = sight.rpartition(" ")
            behind = self._behind_seen_try(card_in(event), answer == "open")
        self.standings = self._behind_further_tries(behind)

    def _behind_give(self):
        given = self.newest
        self.newest += 1
        skips = self.terms.skips
        return [standing for standing in self.standings if skips is None or given - standing[2] <= skips]

    def _behind_house(self):
        if not self.terms.house:
            return []
        behind = []
        for number, lot, highest in self.standings:
            number, lot, _ = self.door.behind_house(number, lot, self.newest)
            behind.append((number, lot, highest))
        return behind

    def _behind_seen_try(self, card, answer):
        if not self._may_try(card):
            return []
        tried = [self._behind_try(standing, card) for standing in self.standings]
        return [standing for opens, standing in tried if opens == answer]

    def _behind_further_tries(self, standings):
        """The standings, and all that can come of them."""
        cards = [card for card in range(1, self.newest + 1) if self._may_try(card)]
        known = set()
        found = []
        todo = list(standings)
        while todo:
            standing = todo.pop()
            if standing not in known:
                known.add(standing)
                found.append(standing)
                todo.extend([self._behind_try(standing, card)[1] for card in cards])
        return found

    def _may_try(self, card):
        return card != self.spared and (self.terms.elder or card == self.newest)

    def _behind_try(self, standing, card):
        """Whether the door opens for a card, and its standing behind that."""
        number, lot, highest = standing
        opens, number, lot, _ = self.door.behind_try(number, lot, card)
        return opens, (number, lot, max(highest, card))


def guessed(door, terms, seen, spared=None):
    """All standings that a door can have behind what was seen, or those without a try of one card."""
    guess = Guess(door, terms, spared)
    for sight in seen:
        guess.go_on(sight)
    return guess.standings


def fits(tool, terms, seen):
    """Whether just this can be seen in some story that the terms let."""
    check(seen)
    return len(guessed(Door(tool), terms, seen)) > 0


def numbers(tool, terms, seen):
    """All numbers that the door can have in the end of such a story."""
    check(seen)
    return tuple(sorted({number for number, _, _ in guessed(Door(tool), terms, seen)}))


def fitting(tools, terms, seen):
    """The indexes of the tools with which just this can be seen."""
    check(seen)
    return tuple([at for at, tool in enumerate(tools) if fits(tool, terms, seen)])


def surely_tried(tool, terms, seen):
    """The cards that were tried in each such story."""
    check(seen)
    door = Door(tool)
    if not guessed(door, terms, seen):
        return ()
    cards = range(1, seen.count("give") + 1)
    return tuple([card for card in cards if not guessed(door, terms, seen, card)])
