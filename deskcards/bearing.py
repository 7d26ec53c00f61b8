"""What a door bears: windows, skips, and rows that do not matter or do harm."""

from deskcards.deciding import happens, is_fault
from deskcards.errors import InvalidFault

MOST_SKIPS = 3
MOST_WINDOWS = 3


def check(wanted):
    """Raise an error if something in a sequence is no fault."""
    if not all([is_fault(fault) for fault in wanted]):
        raise InvalidFault()


def happening(tool, terms, wanted):
    """Those of the wanted faults that happen."""
    return [fault for fault in wanted if happens(tool, terms, fault)]


def is_safe(tool, terms, wanted):
    """Whether none of the wanted faults happens."""
    for fault in wanted:
        if happens(tool, terms, fault):
            return False
    return True


def safe_windows(tool, terms, wanted):
    """The windows with which none of the wanted faults happens."""
    check(wanted)
    windows = range(1, MOST_WINDOWS + 1)
    return tuple([window for window in windows if is_safe(tool.at_window(window), terms, wanted)])


def most_skips(tool, terms, wanted):
    """The greatest number of skips with which none of the wanted faults happens, or any, or None."""
    check(wanted)
    if is_safe(tool, terms.but(skips=None), wanted):
        return "any"
    most = None
    for skips in range(MOST_SKIPS + 1):
        if not is_safe(tool, terms.but(skips=skips), wanted):
            break
        most = skips
    return most


def needless(tool, terms, wanted):
    """The numbers of the rows without which the same ones of the wanted faults happen."""
    check(wanted)
    same = happening(tool, terms, wanted)
    return tuple([at for at in range(len(tool)) if happening(tool.without(at), terms, wanted) == same])


def mends(tool, terms, wanted):
    """The numbers of the rows without which none of the wanted faults happens."""
    check(wanted)
    return tuple([at for at in range(len(tool)) if is_safe(tool.without(at), terms, wanted)])
