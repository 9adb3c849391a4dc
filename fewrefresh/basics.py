"""Questions about plain values that several files ask."""

LETTERS = "abcdefghijklmnopqrstuvwxyz"
MOST_LETTERS = 8


def is_whole(thing):
    """Return whether a thing is an integer."""
    # Python counts booleans as integers, the document does not.
    return isinstance(thing, int) and not isinstance(thing, bool)


def is_number(thing, low, high):
    """Return whether a thing is an integer from low to high."""
    return is_whole(thing) and low <= thing <= high


def is_name(thing):
    """Return whether a thing is a name that a node may have."""
    if not isinstance(thing, str) or not 1 <= len(thing) <= MOST_LETTERS:
        return False
    return all([letter in LETTERS for letter in thing])


def is_tuple_of(thing, many):
    """Return whether a thing is a tuple of so many items."""
    return isinstance(thing, tuple) and len(thing) == many
