"""What several modules need: kinds of values and short numbers."""

NOT_NAMES = ("and", "do", "if", "mark", "not", "open", "shut", "then")


def is_integer(value):
    """Whether any value is an integer: Python counts bools among them, the document does not."""
    return isinstance(value, int) and not isinstance(value, bool)


def is_number(value):
    """Whether any value is an integer from 0 on."""
    return is_integer(value) and value >= 0


def is_sequence(value):
    """Whether any value is a list or a tuple."""
    return isinstance(value, (list, tuple))


def is_name(value):
    """Whether any value is a name."""
    if not isinstance(value, str) or not 1 <= len(value) <= 4:
        return False
    # Letters and lower case go far beyond a to z without the look at ASCII.
    return value.isascii() and value.isalpha() and value.islower() and value not in NOT_NAMES


def short_number(text):
    """The number with these one or two digits, without leading zeros, or None."""
    if len(text) > 2 or not text.isdecimal():
        return None
    # Python also reads digits of other scripts and leading zeros, but it never writes them.
    return int(text) if str(int(text)) == text else None
