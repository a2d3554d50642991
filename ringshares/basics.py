"""What an integer, a name, an ascending row, a tuple of some form and a written number are."""

LETTERS = "abcdefghijklmnopqrstuvwxyz"
DIGITS = "0123456789"
MOST_SIGNS = 8
MOST_DIGITS = 19


def is_whole(value):
    """Tells whether value is an integer."""
    # Python takes True and False for integers; the document does not.
    return isinstance(value, int) and not isinstance(value, bool)


def is_from_to(value, least, most):
    """Tells whether value is an integer from least to most."""
    return is_whole(value) and least <= value <= most


def is_word_of(value, words):
    """Tells whether value is one of these strings."""
    return isinstance(value, str) and value in words


def is_name(value):
    """Tells whether value is a name."""
    if not isinstance(value, str) or not 1 <= len(value) <= MOST_SIGNS:
        return False
    return value[0] in LETTERS and all([sign in LETTERS + DIGITS for sign in value])


def is_ascending(row):
    """Tells whether each element of row is greater than the one before it."""
    return all([one < other for one, other in zip(row, row[1:])])


def is_form_of(value, forms):
    """Tells whether value is a tuple of one of these forms, pairs of its first word and its length."""
    if not isinstance(value, tuple) or len(value) == 0 or not isinstance(value[0], str):
        return False
    return (value[0], len(value)) in forms


def lots(row, many):
    """Returns all tuples of so many elements of an ascending row, in its order, ascending."""
    found = [()]
    for one in row:
        found = found + [lot + (one,) for lot in found if len(lot) < many]
    return sorted([lot for lot in found if len(lot) == many])


def is_lot_of(value, many, words):
    """Tells whether value is an ascending tuple of so many of these strings."""
    if not isinstance(value, tuple) or len(value) != many:
        return False
    return all([is_word_of(word, words) for word in value]) and is_ascending(value)


def is_written_number(word):
    """Tells whether word is an integer in digits without needless zeros."""
    # More digits are beyond every limit, and Python refuses to read very long numbers.
    if not 1 <= len(word) <= MOST_DIGITS:
        return False
    return all([sign in DIGITS for sign in word]) and (word == "0" or word[0] != "0")


def written_number(word):
    """Returns the integer that word writes, None if it writes none."""
    if not is_written_number(word):
        return None
    return int(word)
