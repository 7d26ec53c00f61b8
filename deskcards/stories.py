"""Stories: the events at a door, one behind the other."""

from deskcards.common import is_sequence, short_number
from deskcards.errors import InvalidEvent, InvalidText
from deskcards.terms import Terms


def is_possible(event, given):
    """Whether any value is an event that is possible when so many cards were given."""
    if not isinstance(event, str):
        return False
    if event in ("give", "house"):
        return event == "give" or given > 0
    lead, _, digits = event.partition(" ")
    card = short_number(digits)
    return lead == "try" and card is not None and 1 <= card <= given


def first_wrong(events):
    """The number of the first of these values that is no event or not possible, or None."""
    given = 0
    for at, event in enumerate(events):
        if not is_possible(event, given):
            return at
        if event == "give":
            given += 1
    return None


def is_try(event):
    """Whether a card is tried in an event."""
    return event.startswith("try ")


def card_in(event):
    """The number of the card that is tried in an event."""
    return int(event.removeprefix("try "))


def least_terms(events):
    """The least terms that let these events."""
    skips = 0
    elder = False
    given = 0
    highest_tried = 0
    for event in events:
        if event == "give":
            skips = max(skips, given - highest_tried)
            given += 1
        elif event != "house":
            elder = elder or card_in(event) != given
            highest_tried = max(highest_tried, card_in(event))
    return Terms(skips, elder, "house" in events)


class Story:
    """Events that are possible one behind the other."""

    def __init__(self, events=()):
        if not is_sequence(events):
            raise InvalidEvent(0)
        wrong = first_wrong(events)
        if wrong is not None:
            raise InvalidEvent(wrong)
        self.events = tuple(events)
        self.needs = least_terms(self.events)

    @classmethod
    def read(cls, text):
        """The story with this text."""
        try:
            return cls(() if text == "-" else text.split("; "))
        except InvalidEvent as e:
            raise InvalidText(e.at) from None

    @property
    def given(self):
        """How many cards were given."""
        return self.events.count("give")

    def upto(self, many):
        """The story with so many of the first events."""
        return Story(self.events[:many])

    def more(self, events):
        """The story with further events at the end."""
        if not is_sequence(events):
            raise InvalidEvent(0)
        return Story(self.events + tuple(events))

    def __len__(self):
        return len(self.events)

    def __eq__(self, other):
        return isinstance(other, Story) and self.events == other.events

    def __str__(self):
        return "; ".join(self.events or ("-",))
