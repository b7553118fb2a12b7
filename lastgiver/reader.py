"""What the lines of a desk may be."""

from lastgiver.books import Book
from lastgiver.bounds import Bounds
from lastgiver.checks import check_end, integer_in, is_name, is_within, word_at, words_of
from lastgiver.deals import Deal
from lastgiver.deeds import Deed
from lastgiver.dials import Dial
from lastgiver.errors import BadText
from lastgiver.swaps import Swap

FORMS = ("swap", "bounds", "deal", "dial")
# What stands behind the first word of each line. A form is a name that keeps a value of it; a text and a deed
# go to the end of the line, as do numbers, none or more.
LINES = {
    "put": ("name", "form", "text"),
    "drop": ("held",),
    "deal": ("name", "swap", "bounds"),
    "exchange": ("name", "deal"),
    "return": ("name", "deal"),
    "book": ("name", "deal"),
    "tell": ("book", "deed"),
    "undo": ("book",),
    "redo": ("book",),
    "left": ("name", "book"),
    "merge": ("name", "book", "book"),
    "show": ("held",),
    "walk": ("deal", "numbers"),
    "play": ("deal", "numbers"),
    "row": ("deal",),
    "plan": ("book",),
    "count": ("deal",),
    "need": ("book",),
    "least": ("deal", "dial"),
    "patience": ("deal",),
    "front": ("deal", "dial", "dial"),
    "pieces": ("deal", "number"),
    "fine": ("deal",),
    "classes": ("deal",),
    "group": ("deal",),
    "most": ("deal",),
    "sums": ("book",),
    "hopes": ("book",),
    "objecting": ("book",),
}


def form_of(value):
    """The form of any value: one of FORMS, or book, or None."""
    if isinstance(value, Swap):
        return "swap"
    if isinstance(value, Bounds):
        return "bounds"
    if isinstance(value, Deal):
        return "deal"
    if isinstance(value, Dial):
        return "dial"
    return "book" if isinstance(value, Book) else None


def read_line(line, forms):
    """The tuple of the words of any line, a text or a deed as one string at the end.

    forms tells for each name that keeps something the form of this.
    """
    words = words_of(line)
    if words[0] not in LINES:
        raise BadText(0, 0)
    told = LINES[words[0]]
    for at, kind in enumerate(told, start=1):
        if kind == "text" or kind == "deed":
            word_at(words, at)
            rest = " ".join(words[at:])
            _check_text(words[2] if kind == "text" else kind, rest, at)
            return (*words[:at], rest)
        if kind == "numbers":
            for place in range(at, len(words)):
                _check_word(words, place, "number", forms)
            return tuple(words)
        _check_word(words, at, kind, forms)
    check_end(words, len(told) + 1)
    return tuple(words)


def value_in(form, text):
    """The value of this form, or the deed, that the text tells."""
    if form == "swap":
        return Swap.read(text)
    if form == "bounds":
        return Bounds.read(text)
    if form == "deal":
        return Deal.read(text)
    return Dial.read(text) if form == "dial" else Deed.read(text)


def _check_word(words, at, kind, forms):
    """Raise BadText unless the word at this place is one of this kind."""
    word = word_at(words, at)
    if kind == "name":
        fits = is_name(word)
    elif kind == "form":
        fits = word in FORMS
    elif kind == "held":
        fits = word in forms
    elif kind == "number":
        fits = is_within(integer_in(word), 0, None)
    else:
        fits = forms.get(word, None) == kind
    if not fits:
        raise BadText(0, at)


def _check_text(form, text, at):
    """Raise BadText, the words being counted in the line, for what is no text of this form."""
    try:
        value_in(form, text)
    except BadText as error:
        raise BadText(0, at + error.word)
