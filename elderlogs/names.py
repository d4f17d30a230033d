"""What is a name, and where names stand side by side."""

_LETTERS = "abcdefghijklmnopqrstuvwxyz"


def is_name(value):
    """Tell whether this, any value, is a name."""
    # Letters are looked up, since isalpha and islower take many beyond a to z.
    return isinstance(value, str) and 1 <= len(value) <= 4 and all([letter in _LETTERS for letter in value])


def are_unlike_names(value):
    """Tell whether this, any value, is a sequence of unlike names."""
    if not isinstance(value, (list, tuple)) or not all([is_name(name) for name in value]):
        return False
    return len(set(value)) == len(value)


def names_behind(head, line):
    """Return the names that stand behind this first word in a line, or None if it is no such line."""
    words = line.split(" ")
    if words[0] != head or not all([is_name(word) for word in words[1:]]):
        return None
    return words[1:]
