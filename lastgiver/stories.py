"""Stories: the deeds of books, told anew and put together."""

from lastgiver.books import Book
from lastgiver.checks import is_listed
from lastgiver.deals import check_deal
from lastgiver.deeds import Deed
from lastgiver.errors import BadBook, BadStory, LastError, Unlike


def replay(deal, story):
    """The Book of a deal with these deeds, done in turn."""
    check_deal(deal)
    if not is_listed(story) or not all([isinstance(deed, Deed) for deed in story]):
        raise BadStory("story")
    book = Book(deal)
    for place, deed in enumerate(list(story)):
        if not _is_taken(book, deed):
            raise BadStory(place)
    return book


def merged(one, other):
    """The Book of one's deeds and then other's, and the indexes of those of other's that are refused."""
    if not isinstance(one, Book):
        raise BadBook("one")
    if not isinstance(other, Book):
        raise BadBook("other")
    if one.deal != other.deal:
        raise Unlike("deals")
    shared = _shared(one.story, other.story)
    deeds = list(other.story)
    book = replay(one.deal, one.story)
    refused = []
    for place in range(shared, len(deeds)):
        if not _is_taken(book, deeds[place]):
            refused.append(place)
    return book, tuple(refused)


def _shared(one, other):
    """With how many deeds two stories begin alike."""
    many = 0
    while many < min(len(one), len(other)) and one[many] == other[many]:
        many = many + 1
    return many


def _is_taken(book, deed):
    """Whether a book takes a deed, and does it."""
    try:
        book.tell(deed)
    except LastError:
        return False
    return True
