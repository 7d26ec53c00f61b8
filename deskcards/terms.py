"""Terms: which stories are let."""

from deskcards.common import is_number, short_number
from deskcards.errors import InvalidTerms, InvalidText


class Terms:
    """How many newest cards may be skipped, and whether elder cards and the house's card are let."""

    def __init__(self, skips=None, elder=False, house=False):
        if skips is not None and not is_number(skips):
            raise InvalidTerms("skips")
        if not isinstance(elder, bool):
            raise InvalidTerms("elder")
        if not isinstance(house, bool):
            raise InvalidTerms("house")
        self.skips = skips
        self.elder = elder
        self.house = house

    @classmethod
    def read(cls, text):
        """The terms with this text."""
        words = text.split(" ")
        skips = short_number(words[1]) if len(words) > 1 else None
        terms = cls(skips, "elder" in words, "house" in words)
        # What the words seem to tell is right only if it is told by just this text.
        if str(terms) != text:
            raise InvalidText(0)
        return terms

    def lets(self, story):
        """Whether these terms let a story."""
        needs = story.needs
        if self.skips is not None and needs.skips > self.skips:
            return False
        return (self.elder or not needs.elder) and (self.house or not needs.house)

    def but(self, **others):
        """The terms with these arguments in the place of their own."""
        arguments = {"skips": self.skips, "elder": self.elder, "house": self.house, **others}
        return Terms(**arguments)

    def __eq__(self, other):
        return isinstance(other, Terms) and str(self) == str(other)

    def __str__(self):
        words = ["skips", "any" if self.skips is None else str(self.skips)]
        if self.elder:
            words.append("elder")
        if self.house:
            words.append("house")
        return " ".join(words)
