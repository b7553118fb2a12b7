"""Plans: how what is left of a book can be ended, and which bounds are enough for it."""

from lastgiver.books import Book
from lastgiver.check_rows import shows_good, shows_stuck
from lastgiver.checks import are_integers
from lastgiver.errors import BadBook
from lastgiver.roads import enough_bounds
from lastgiver.rows import Good, Stuck, find_row


def plan(book):
    """A Good with the open hand-overs in a row, or a Stuck with done sets of them."""
    found = find_row(_left_of(book))
    numbers = book.waiting
    if found:
        return Good([numbers[place] for place in found.row])
    return Stuck([[numbers[place] for place in done] for done in found.sets])


def shows_plan(book, value):
    """Whether any value is a Good or a Stuck that is right of what is left, in the book's numbers."""
    deal = _left_of(book)
    places = {number: place for place, number in enumerate(book.waiting)}
    if type(value) is Good:
        return shows_good(deal, Good(_places_of(places, value.row)))
    if type(value) is not Stuck or not isinstance(value.sets, tuple):
        return False
    return shows_stuck(deal, Stuck([_places_of(places, done) for done in value.sets]))


def can_end(book):
    """Whether all that is left can be done."""
    return bool(plan(book))


def enough_here(book):
    """The Bounds, of those who have stayed, that are enough for what is left."""
    return enough_bounds(_left_of(book).swap)


def _left_of(book):
    """What is left of a book."""
    if not isinstance(book, Book):
        raise BadBook("book")
    return book.left()


def _places_of(places, numbers):
    """The tuple of the places of open hand-overs, for any value that is a tuple of their numbers, or None."""
    if not are_integers(numbers) or not all([number in places for number in numbers]):
        return None
    return tuple([places[number] for number in numbers])
