"""What any value is: an integer, a name, a list of numbers, a text of words."""

from lastgiver.errors import BadDone, BadRow, BadText, NoHand, Twice

LETTERS = "abcdefghijklmnopqrstuvwxyz"
DIGITS = "0123456789"
MOST_SIGNS = 12
MOST_DIGITS = 60


def is_integer(value):
    """Whether any value is an integer; True and False are none."""
    return isinstance(value, int) and not isinstance(value, bool)


def is_within(value, least, most):
    """Whether any value is an integer from least to most; None is no bound."""
    if not is_integer(value):
        return False
    return (least is None or least <= value) and (most is None or value <= most)


def is_name(value):
    """Whether any value is a name: small letters and digits, a letter first."""
    if not isinstance(value, str) or not 1 <= len(value) <= MOST_SIGNS:
        return False
    return value[0] in LETTERS and all([sign in LETTERS or sign in DIGITS for sign in value])


def is_listed(value):
    """Whether any value is a list or a tuple."""
    return isinstance(value, (list, tuple))


def are_integers(value):
    """Whether any value is a list or tuple of integers."""
    return is_listed(value) and all([is_integer(item) for item in value])


def are_names(value):
    """Whether any value is a list or tuple of names."""
    return is_listed(value) and all([is_name(item) for item in value])


def check_none_twice(items):
    """Raise Twice with the first name or number that stood ahead already."""
    met = {}
    for item in items:
        if item in met:
            raise Twice(item)
        met[item] = True


def hands_told(many, value, part):
    """The tuple of some different numbers of so many hand-overs, in the order told."""
    if not are_integers(value):
        raise BadDone(part)
    for number in value:
        if not is_within(number, 0, many - 1):
            raise NoHand(number)
    check_none_twice(value)
    return tuple(value)


def done_told(many, value, part):
    """The done set of so many hand-overs that is told in any order."""
    return tuple(sorted(hands_told(many, value, part)))


def ascends(items):
    """Whether each item is greater than the one ahead of it."""
    return all([items[place] < items[place + 1] for place in range(len(items) - 1)])


def is_done_set(many, value):
    """Whether any value is a tuple of numbers of so many hand-overs, ascending, as a paper tells a done set."""
    if not isinstance(value, tuple) or not all([is_within(number, 0, many - 1) for number in value]):
        return False
    return ascends(value)


def check_hand(many, value):
    """Raise NoHand for any value that is no number of so many hand-overs."""
    if not is_within(value, 0, many - 1):
        raise NoHand(value)


def is_row(many, value):
    """Whether any value is a list or tuple of the numbers of so many hand-overs, each once."""
    return are_integers(value) and sorted(list(value)) == list(range(many))


def row_told(many, value, part):
    """The row of so many hand-overs as a tuple."""
    if not is_row(many, value):
        raise BadRow(part)
    return tuple(value)


def words_of(text):
    """The words of a text."""
    if not isinstance(text, str):
        raise BadText(0, 0)
    return text.split(" ")


def word_at(words, at):
    """The word at this place; BadText if it is missing."""
    if at >= len(words):
        raise BadText(0, len(words))
    return words[at]


def check_end(words, at):
    """Raise BadText if there is a word too many, the one at this place."""
    if at < len(words):
        raise BadText(0, at)


def integer_in(word):
    """The integer that the word tells as str writes it, or None; 60 digits at most."""
    digits = word[1:] if word.startswith("-") else word
    if not 1 <= len(digits) <= MOST_DIGITS or not all([sign in DIGITS for sign in digits]):
        return None
    if digits[0] == "0" and word != "0":
        return None
    return int(word)
