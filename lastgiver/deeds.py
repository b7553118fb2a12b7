"""Deeds: what can happen in a book."""

from lastgiver.bounds import bound_at, bound_text, is_bound, kept_bound
from lastgiver.checks import are_integers, check_end, integer_in, is_name, is_within, word_at, words_of
from lastgiver.errors import BadBook, BadText


class Deed:
    """Something that happens in a book: a Do, a Leave, a Break, a SetTrust or a SetPledge."""

    def __eq__(self, other):
        return type(self) is type(other) and str(self) == str(other)

    def __str__(self):
        return str(self.kind)

    @staticmethod
    def read(text):
        """The deed, of any kind, that the text tells."""
        words = words_of(text)
        if words[0] == "do":
            return Do(_numbers_at(words, 1))
        if words[0] == "leave":
            name = _name_at(words, 1)
            check_end(words, 2)
            return Leave(name)
        if words[0] == "break":
            number = _number_at(words, 1, 0)
            check_end(words, 2)
            return Break(number)
        if words[0] not in ("trust", "pledge"):
            raise BadText(0, 0)
        name = _name_at(words, 1)
        bound = bound_at(words, 2)
        check_end(words, 3)
        return SetTrust(name, bound) if words[0] == "trust" else SetPledge(name, bound)


class Do(Deed):
    """One hand-over or more are done, at one moment."""

    def __init__(self, numbers):
        if not _are_numbers(numbers):
            raise BadBook("numbers")
        self.kind = "do"
        self.numbers = tuple(sorted(list(numbers)))

    def __eq__(self, other):
        return isinstance(other, Do) and self.numbers == other.numbers

    def __str__(self):
        return " ".join([self.kind, *[str(number) for number in self.numbers]])


class Leave(Deed):
    """A stranger leaves, and hands over and takes no more."""

    def __init__(self, name):
        _check_name(name)
        self.kind = "leave"
        self.name = name

    def __eq__(self, other):
        return isinstance(other, Leave) and self.name == other.name

    def __str__(self):
        return f"{self.kind} {self.name}"


class Break(Deed):
    """A thing that was not handed over is lost."""

    def __init__(self, number):
        if not is_within(number, 0, None):
            raise BadBook("number")
        self.kind = "break"
        self.number = number

    def __eq__(self, other):
        return isinstance(other, Break) and self.number == other.number

    def __str__(self):
        return f"{self.kind} {self.number}"


class SetTrust(Deed):
    """A stranger has another trust from now on."""

    def __init__(self, name, trust):
        _check_name(name)
        if not is_bound(trust):
            raise BadBook("trust")
        self.kind = "trust"
        self.name = name
        self.trust = kept_bound(trust)

    def __eq__(self, other):
        return isinstance(other, SetTrust) and self.name == other.name and self.trust == other.trust

    def __str__(self):
        return f"{self.kind} {self.name} {bound_text(self.trust)}"


class SetPledge(Deed):
    """A stranger has another pledge from now on."""

    def __init__(self, name, pledge):
        _check_name(name)
        if not is_bound(pledge):
            raise BadBook("pledge")
        self.kind = "pledge"
        self.name = name
        self.pledge = kept_bound(pledge)

    def __eq__(self, other):
        return isinstance(other, SetPledge) and self.name == other.name and self.pledge == other.pledge

    def __str__(self):
        return f"{self.kind} {self.name} {bound_text(self.pledge)}"


def _check_name(name):
    """Raise BadBook for what is no name."""
    if not is_name(name):
        raise BadBook("name")


def _are_numbers(value):
    """Whether any value is a list or tuple of one or more different integers from 0 on."""
    if not are_integers(value) or len(value) == 0:
        return False
    return all([number >= 0 for number in value]) and len({number for number in value}) == len(value)


def _name_at(words, at):
    """The name that the word at this place tells."""
    name = word_at(words, at)
    if not is_name(name):
        raise BadText(0, at)
    return name


def _number_at(words, at, least):
    """The integer, from least on, that the word at this place tells."""
    number = integer_in(word_at(words, at))
    if not is_within(number, least, None):
        raise BadText(0, at)
    return number


def _numbers_at(words, at):
    """The ascending integers, one or more, that are told from this place on, to the end."""
    numbers = [_number_at(words, at, 0)]
    for place in range(at + 1, len(words)):
        numbers.append(_number_at(words, place, numbers[-1] + 1))
    return numbers
