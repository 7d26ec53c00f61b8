"""Plain searches over all stories of a few cards, for comparison: each event is tried, nothing is left out or bounded.

Stories are put together only if what they came to is the same in all respects that can matter later on.
"""

import itertools

from deskcards.deciding import FAULTS
from deskcards.plays import play
from deskcards.stories import Story
from deskcards.terms import Terms
from doors import all_events, never_opens, put_house


def played_stories(tool, terms, many, cards):
    """For each fault the least number of events, for stories with at most so many events and cards that are really played."""
    least, rows = {}, set()
    for length in range(many + 1):
        for events in all_events(length, cards):
            story = Story(events)
            if terms.lets(story):
                played = play(tool, story)
                rows.update(played.done)
                for at, fault in played.met:
                    least.setdefault(fault, at + 1)
    return least, rows - {None}


def let(terms, newest, tried):
    """Whether another card may be given."""
    return terms.skips is None or newest - tried <= terms.skips


def cards_to_try(terms, newest):
    if terms.elder:
        return range(1, newest + 1)
    return [newest] if newest else []


class Watched:
    """What came of a story, as far as it can matter for the faults: for each card whether it opened, and a lower one since."""

    def __init__(self, number=0, marks=(), tried=0, cards=(), housed=0):
        self.all = (number, marks, tried, cards, housed)

    def behind_give(self):
        number, marks, tried, cards, housed = self.all
        return Watched(number, marks, tried, (*cards, "new"), housed)

    def behind_house(self, tool):
        number, marks, tried, cards, _ = self.all
        number, marks, row = put_house(tool, number, marks, len(cards))
        return Watched(number, marks, tried, cards, len(cards)), row

    def behind_try(self, tool, card):
        """What comes behind a try, the row, and the faults that are met but for stuck."""
        number, marks, tried, cards, housed = self.all
        opens, number, marks, row = tool.answer(number, marks, card)
        old = cards[card - 1]
        if not opens:
            found = (["shut"] + ["out"] * (old != "new")) * (card == len(cards))
            return Watched(number, marks, max(tried, card), cards, housed), row, found
        found = (
            ["behind"] * any(other != "new" for other in cards[card:])
            + ["both"] * (old == "lower since") + ["told"] * (housed > card)
        )
        cards = (
            *cards[:card - 1], "opened",
            *["lower since" if other == "opened" else other for other in cards[card:]],
        )
        return Watched(number, marks, max(tried, card), cards, housed), row, found


def all_stories(tool, terms, cards):
    """For each fault the least number of events in stories with at most so many cards; and which rows are done."""
    least, rows = {}, set()
    level, known, events = [Watched()], {Watched().all}, 0
    while level:
        events += 1
        further = []
        for state in level:
            number, marks, tried, given, _ = state.all
            behind = []
            if len(given) < cards and let(terms, len(given), tried):
                behind.append(state.behind_give())
            if terms.house and given:
                other, row = state.behind_house(tool)
                behind.append(other)
                rows.add(row)
            for card in cards_to_try(terms, len(given)):
                other, row, found = state.behind_try(tool, card)
                behind.append(other)
                rows.add(row)
                for fault in found:
                    least.setdefault(fault, events)
            further += [other for other in behind if not (other.all in known or known.add(other.all))]
        for state in further:
            number, marks, _, given, _ = state.all
            if "stuck" not in least and given and never_opens(tool, number, marks, len(given)):
                least["stuck"] = events
        level = further
    assert set(least) <= set(FAULTS)
    return least, rows - {None}


def all_standings(tool, terms, cards):
    """The standings and the rows that are done in stories with at most so many cards."""
    most = 1 if terms.skips is None else terms.skips + 1
    standings, rows = set(), set()
    todo = [(0, (), 0, 0)]
    known = set(todo)
    for number, marks, newest, tried in todo:
        standings.add((marks, min(newest - number, tool.window + 1), min(newest - tried, most)))
        behind = []
        if newest < cards and let(terms, newest, tried):
            behind.append((number, marks, newest + 1, tried))
        if terms.house and newest:
            other, lot, row = put_house(tool, number, marks, newest)
            behind.append((other, lot, newest, tried))
            rows.add(row)
        for card in cards_to_try(terms, newest):
            _, other, lot, row = tool.answer(number, marks, card)
            behind.append((other, lot, newest, max(tried, card)))
            rows.add(row)
        todo += [state for state in behind if not (state in known or known.add(state))]
    return tuple(sorted(standings)), rows - {None}


def least_difference(p, q, skips, cards):
    """The least number of events in stories of at most so many cards in which two doors differ at a newest card, or None."""
    level = {((0, ()), (0, ()), 0, 0)}
    known, events = set(level), 0
    while level:
        events += 1
        further = set()
        for one, other, newest, tried in level:
            if newest < cards and let(Terms(skips), newest, tried):
                further.add((one, other, newest + 1, tried))
            if newest:
                further.add((put_house(p, *one, newest)[:2], put_house(q, *other, newest)[:2], newest, tried))
                first, second = p.answer(*one, newest), q.answer(*other, newest)
                if first[0] != second[0]:
                    return events
                further.add((first[1:3], second[1:3], newest, newest))
        level = further - known
        known |= level
    return None


def with_further_tries(tool, terms, states, newest):
    """The states, and all that can come of them by tries."""
    todo = list(states)
    known = set(todo)
    for number, marks, tried in todo:
        for card in cards_to_try(terms, newest):
            _, other, lot, _ = tool.answer(number, marks, card)
            state = (other, lot, tried | {card})
            if state not in known:
                known.add(state)
                todo.append(state)
    return known


def told_back(tool, terms, seen):
    """Whether what was seen fits, the numbers in the end, and the cards that were tried in any case.

    A state is a number, marks and all cards that were tried.
    """
    newest, states = 0, {(0, (), frozenset())}
    for sight in seen:
        if sight == "give":
            states = {state for state in states if let(terms, newest, max(state[2], default=0))}
            newest += 1
        elif sight == "house":
            states = {
                (*put_house(tool, number, marks, newest)[:2], tried) for number, marks, tried in states if terms.house
            }
        else:
            _, card, answer = sight.split(" ")
            card = int(card)
            tries = [(*tool.answer(number, marks, card), tried) for number, marks, tried in states]
            states = {
                (number, marks, tried | {card}) for opens, number, marks, _, tried in tries
                if opens == (answer == "open") and card in cards_to_try(terms, newest)
            }
        states = with_further_tries(tool, terms, states, newest)
    if not states:
        return False, (), ()
    cards = frozenset.intersection(*[tried for _, _, tried in states])
    return True, tuple(sorted({number for number, _, _ in states})), tuple(sorted(cards))


def all_seen(many, cards):
    """All that can be seen with at most so many events and cards, whatever the door answers."""
    found = []
    for length in range(many + 1):
        for events in all_events(length, cards):
            choices = [[event + " open", event + " shut"] if event.startswith("try") else [event] for event in events]
            found += itertools.product(*choices)
    return found


def sights(tool, events):
    """The events of a story as they are seen if all tries are."""
    answers = iter(play(tool, Story(events)).opened)
    return [event + (" open" if next(answers) else " shut") if event.startswith("try") else event for event in events]


def seen_in_stories(tool, many, cards, most_seen):
    """For each thing seen, of at most so many events, the stories of at most so many events in which it can be seen.

    Of a story its terms, the number in the end and the cards that were tried are told.
    """
    found = {}
    for length in range(many + 1):
        for events in all_events(length, cards):
            story = Story(events)
            number = play(tool, story).number
            whole = sights(tool, events)
            tries = [at for at, event in enumerate(events) if event.startswith("try")]
            cards_tried = {int(events[at][4:]) for at in tries}
            for hidden in range(max(0, length - most_seen), len(tries) + 1):
                for places in itertools.combinations(tries, hidden):
                    seen = tuple(sight for at, sight in enumerate(whole) if at not in places)
                    found.setdefault(seen, []).append((story, number, cards_tried))
    return found
