"""Papers: an answer and what shows it."""


def fixed(value):
    """The value with each list in it as a tuple, each dict as the tuple of its pairs, by keys."""
    if isinstance(value, (list, tuple)):
        return tuple([fixed(item) for item in value])
    if isinstance(value, dict):
        return tuple([(key, fixed(value[key])) for key in sorted(list(value))])
    return value


class Paper:
    """A word and parts, kept as fixed gives them."""

    def __init__(self, word, *parts):
        self.word = word
        self.parts = fixed(parts)

    def __eq__(self, other):
        return type(self) is type(other) and self.word == other.word and self.parts == other.parts

    def __bool__(self):
        return True


class Denial(Paper):
    """A paper that says no."""

    def __init__(self, word, *parts):
        self.word = word
        self.parts = fixed(parts)

    def __eq__(self, other):
        return type(self) is type(other) and self.word == other.word and self.parts == other.parts

    def __bool__(self):
        return False
