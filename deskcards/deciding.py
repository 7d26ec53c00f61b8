"""What can happen in all stories that terms let, of any length and with any number of cards.

A search goes through the standings of a door, those with the shortest stories first. A row without `learn` changes
nothing and `learn` raises the number, so of all cards only matters how far they are ahead of the door; and in each
fault only one card is watched besides the newest one. Each story that the search goes through is one that the terms
let. It need not go through all of them: among the shortest ones in which a fault is met, or which come to a standing,
there is always one in which

- cards are given as late as can be: behind a `give` comes another one, the house's card, or a try of the newest card;
- each try changes the door or what is watched, or lets more cards be given;
- the newest card is ahead of the door by no more than a bound. Cards that were given early are used up while the door
  learns one after the other: at most `window + 1` of them each time, as all cards that are far are alike. When the
  door comes to the same marks again and nothing else happened to the watched card, what was done in between can be
  left out, as more cards are left without it; only the first three times the door also comes to have a last and an
  elder card. And cards above those that are used need not be given at all.

So there are finitely many standings to go through.
"""

from deskcards.errors import InvalidFault, NoRow
from deskcards.stories import Story
from deskcards.tools import word_for

FAULTS = ("behind", "both", "out", "shut", "stuck", "told")
# Without elder cards only the newest one is tried, and no greater one can have been there.
FAULTS_WITH_ELDER = ("behind", "both", "told")

# The phases of a watch: no card is watched, one is, a lower one opened since, the fault is met.
UNWATCHED = 0
WATCHED = 1
LOWER = 2
MET = 3

# From how far below the door on a watched card is an elder one, and from which number of the door on there is an elder
# card that is not the first one: further off makes no difference.
ELDER = -2
LOW = 4


def is_fault(value):
    """Whether any value is a fault."""
    return isinstance(value, str) and value in FAULTS


def watch_nothing(phase, watched, card, newest, opens):
    """The watch behind a try where tries do not matter."""
    return phase, watched


def watch_behind(phase, watched, card, newest, opens):
    """The watch behind a try: on a card that opens, until a lower one opens."""
    # No card is lower than the first one.
    if phase == UNWATCHED and opens and card > 1:
        return WATCHED, card
    return watch_told(phase, watched, card, newest, opens)


def watch_told(phase, watched, card, newest, opens):
    """The watch behind a try: on the newest card at an event of the house, until a lower one opens."""
    if phase == WATCHED and opens and card < watched:
        return MET, watched
    return phase, watched


def watch_both(phase, watched, card, newest, opens):
    """The watch behind a try: on a card that opens, until a lower one opens and then this one again."""
    if phase == UNWATCHED and opens and card > 1:
        return WATCHED, card
    if phase == WATCHED and opens and card < watched:
        return LOWER, watched
    if phase == LOWER and opens and card == watched:
        return MET, watched
    return phase, watched


def watch_out(phase, watched, card, newest, opens):
    """The watch behind a try: on the newest card, if it opens, until it does not."""
    if phase == UNWATCHED and opens and card == newest:
        return WATCHED, card
    if phase == WATCHED and not opens and card == newest:
        return MET, watched
    return phase, watched


def watch_shut(phase, watched, card, newest, opens):
    """The watch behind a try: until the newest card does not open."""
    if not opens and card == newest:
        return MET, watched
    return phase, watched


WATCHES = {
    None: watch_nothing,
    "behind": watch_behind,
    "both": watch_both,
    "out": watch_out,
    "shut": watch_shut,
    "stuck": watch_nothing,
    "told": watch_told,
}


class Door:
    """What a tool does, looked up once: for each lot that its door can have and each way a card can be ahead of it."""

    def __init__(self, tool):
        self.window = tool.window
        self.lots = [()]
        self.tries = []
        self.houses = []
        # From the elder cards, which are two or more below the door, to those far ahead.
        words = [word_for(tool.window, 2, card) for card in range(tool.window + 4)]
        while len(self.tries) < len(self.lots):
            lot = self.lots[len(self.tries)]
            self.tries.append([self._at_lots(tool.deal(word, lot)) for word in words])
            self.houses.append(self._at_lots(tool.deal("house", lot)))

    def _at_lots(self, answer):
        """An answer with the number of the lot in the place of the marks."""
        opens, learns, marks, row = answer
        if marks not in self.lots:
            self.lots.append(marks)
        return opens, learns, self.lots.index(marks), row

    def answer(self, lot, ahead):
        """Whether a card so far ahead opens and is learned, the lot behind it, and the row that was done."""
        return self.tries[lot][max(ELDER, min(ahead, self.window + 1)) - ELDER]

    def behind_try(self, number, lot, card):
        """Whether a card opens, the number and the lot behind it, and the row that was done."""
        opens, learns, lot, row = self.answer(lot, card - number)
        return opens, card if learns else number, lot, row

    def behind_house(self, number, lot, newest):
        """The number and the lot behind the house's card, and the row that was done."""
        if newest <= number:
            return number, lot, None
        _, learns, lot, row = self.houses[lot]
        return newest if learns else number, lot, row

    def is_stuck(self, lot, ahead):
        """Whether a card so far ahead would never open, however often it were tried."""
        opens, learns, behind, _ = self.answer(lot, ahead)
        if opens:
            return False
        # Nothing changes unless the card is learned, and nothing changes any more when it is.
        return not learns or not self.answer(behind, 0)[0]


class Search:
    """All standings of a door in stories that the terms let, or those up to the first story in which a fault is met.

    A state is a number, a lot, the newest card, the highest tried one, whether a `give` was last, a phase, and the
    watched card. Only the first one of those that do not differ in their standing is kept, with the way to it.
    """

    def __init__(self, tool, terms, fault=None):
        self.door = Door(tool)
        self.terms = terms
        self.fault = fault
        # The door learns with each lot once in each phase, and three times more until it has elder cards. Then comes
        # the first far card.
        phases = 2 if fault == "both" else 1
        self.bound = (tool.window + 1) * (len(self.door.lots) * phases + 4)
        self.most_untried = self._most_untried()
        self.states = []
        self.ways = []
        self.seen = {}
        self.rows = {}
        self.found = None
        self._reach(None, None, (0, 0, 0, 0, False, UNWATCHED, 0))
        at = 0
        while at < len(self.states) and self.found is None:
            self._go_on(at)
            at += 1

    def untried(self, newest, tried):
        """How many of the newest cards are untried, as far as it matters."""
        return min(newest - tried, self.most_untried)

    def _most_untried(self):
        if self.terms.skips is not None:
            return self.terms.skips + 1
        return 1 if self.fault is None else 0

    def _go_on(self, at):
        """Go on behind a state with each event that is of use."""
        self._give(at)
        if self.terms.house:
            self._house(at)
        for card in self._cards(at):
            self._try(at, card)

    def _give(self, at):
        number, lot, newest, tried, _, phase, watched = self.states[at]
        if self.terms.skips is not None and newest - tried > self.terms.skips:
            return
        if newest < self._most_given(number, phase, watched):
            self._reach(at, "give", (number, lot, newest + 1, tried, True, phase, watched))

    def _most_given(self, number, phase, watched):
        """The greatest card that is of any use."""
        if phase == UNWATCHED:
            return number + self.bound
        # A watched card that is to be kept out must stay the newest one.
        if self.fault == "out":
            return watched
        # Each card up to the first far one can then be given when it is needed.
        if self.terms.skips is None or self.terms.skips >= self.door.window:
            return max(number, watched) + self.door.window + 1
        return number + self.bound

    def _house(self, at):
        number, lot, newest, tried, _, phase, watched = self.states[at]
        new_number, lot, row = self.door.behind_house(number, lot, newest)
        self.rows[row] = True
        behind = (new_number, lot, newest, tried, False)
        if self.fault == "told" and phase == UNWATCHED and newest > 1:
            self._reach(at, "house", (*behind, WATCHED, newest))
        if new_number > number:
            self._reach(at, "house", (*behind, phase, watched))

    def _cards(self, at):
        """The cards that are worth a try; some of the lower ones may be told twice."""
        number, _, newest, _, given, _, watched = self.states[at]
        if given or not self.terms.elder:
            return [newest] if newest > 0 else []
        # The first card stands for all lower ones, and the highest elder one for all that are to be watched.
        lower = [card for card in (1, number - 2, number - 1, number, watched) if 1 <= card <= number]
        return lower + list(range(number + 1, newest + 1))

    def _try(self, at, card):
        number, lot, newest, tried, _, phase, watched = self.states[at]
        opens, new_number, lot, row = self.door.behind_try(number, lot, card)
        self.rows[row] = True
        event = f"try {card}"
        highest = max(tried, card)
        behind = (new_number, lot, newest, highest, False)
        watch = WATCHES[self.fault]
        new_phase, new_watched = watch(phase, watched, card, newest, opens)
        if new_phase == MET:
            self._find(at, event)
        if new_phase != phase:
            self._reach(at, event, (*behind, new_phase, new_watched))
        # A card that opens need not be the one to watch; but what was met behind that is not given up.
        if phase in (UNWATCHED, new_phase):
            if new_number > number or self.untried(newest, highest) < self.untried(newest, tried):
                self._reach(at, event, (*behind, phase, watched))

    def _reach(self, at, event, state):
        """Keep a state that comes behind another one with an event, unless one with its standing is kept."""
        number, lot, newest, tried, given, phase, watched = state
        place = 0 if phase == UNWATCHED else max(watched - number, ELDER)
        standing = (lot, min(number, LOW), newest - number, self.untried(newest, tried), given, phase, place)
        if standing in self.seen:
            return
        self.seen[standing] = True
        self.states.append(state)
        self.ways.append((at, event))
        if self.fault == "stuck" and newest > 0 and self.door.is_stuck(lot, newest - number):
            self._find(at, event)

    def _find(self, at, event):
        """Keep the story in which the fault is met, if it is the first one."""
        if self.found is not None:
            return
        events = []
        while at is not None:
            events.append(event)
            at, event = self.ways[at]
        self.found = Story(events[::-1])


def happens(tool, terms, fault):
    """Whether a fault is met in some story that the terms let."""
    return story(tool, terms, fault) is not None


def faults(tool, terms):
    """The faults that happen."""
    return tuple([fault for fault in FAULTS if happens(tool, terms, fault)])


def story(tool, terms, fault):
    """A shortest story that the terms let and in which a fault is met, or None."""
    if not is_fault(fault):
        raise InvalidFault()
    if fault in FAULTS_WITH_ELDER and not terms.elder:
        return None
    return Search(tool, terms, fault).found


def fewest(tool, terms, fault):
    """The length of a shortest story that the terms let and in which a fault is met, or None."""
    found = story(tool, terms, fault)
    return None if found is None else len(found)


def comes(tool, terms, at):
    """Whether the row with this number is done in some story that the terms let."""
    if at not in range(len(tool)):
        raise NoRow(at)
    return at in Search(tool, terms).rows


def standings(tool, terms):
    """All triples of marks, cards ahead and cards untried that the door can have behind stories that the terms let."""
    search = Search(tool, terms)
    found = {}
    for number, lot, newest, tried, _, _, _ in search.states:
        ahead = min(newest - number, tool.window + 1)
        found[search.door.lots[lot], ahead, search.untried(newest, tried)] = True
    return tuple(sorted(found))
