"""The desk: it keeps values under names, and is told lines."""

from lastgiver.books import Book
from lastgiver.checks import is_name
from lastgiver.deals import Deal
from lastgiver.doable import most_chosen
from lastgiver.errors import BadLine, LastError, NoDeed
from lastgiver.fine import fine
from lastgiver.fitting import least_pieces
from lastgiver.fronts import front
from lastgiver.groups import least_group
from lastgiver.least import least
from lastgiver.numbered import Rows
from lastgiver.patience import patience
from lastgiver.plans import enough_here, plan
from lastgiver.plays import played
from lastgiver.reader import form_of, read_line, value_in
from lastgiver.rows import find_row
from lastgiver.stories import merged
from lastgiver.together import classes
from lastgiver.turned_deals import exchanged, handed_back_deal
from lastgiver.walked import RowWalk

DONE = "ok"
NOTHING = "-"


def _in_turn(items):
    """The texts of some items, with single blanks between."""
    return " ".join([str(item) for item in items]) if len(items) > 0 else NOTHING


def _apart(items):
    """The texts of some items, with commas between."""
    return " , ".join([str(item) for item in items]) if len(items) > 0 else NOTHING


# Behind each deed line stand the name that it changes, what this keeps from now on, None for nothing, and the
# answer. What is kept is not changed: so a line is taken back by what the name kept ahead of it.


def _put(kept, words):
    """The name keeps the value that a text tells."""
    return words[1], value_in(words[2], words[3]), DONE


def _drop(kept, words):
    """The name keeps nothing."""
    return words[1], None, DONE


def _deal(kept, words):
    """The name keeps the Deal of a swap and bounds."""
    return words[1], Deal(kept[words[2]], kept[words[3]]), DONE


def _exchange(kept, words):
    """The name keeps a deal exchanged."""
    return words[1], exchanged(kept[words[2]]), DONE


def _return(kept, words):
    """The name keeps a deal handed back."""
    return words[1], handed_back_deal(kept[words[2]]), DONE


def _book(kept, words):
    """The name keeps a new Book of a deal."""
    book = Book(kept[words[2]])
    return words[1], book, _in_turn(book.waiting)


def _tell(kept, words):
    """A deed comes in a book."""
    book = kept[words[1]].twin()
    book.tell(value_in("deed", words[2]))
    return words[1], book, _in_turn(book.waiting)


def _undo(kept, words):
    """A book takes its latest deed back."""
    book = kept[words[1]].twin()
    book.undo()
    return words[1], book, _in_turn(book.waiting)


def _redo(kept, words):
    """A book does a deed anew."""
    book = kept[words[1]].twin()
    book.redo()
    return words[1], book, _in_turn(book.waiting)


def _left(kept, words):
    """The name keeps what is left of a book."""
    return words[1], kept[words[2]].left(), DONE


def _merge(kept, words):
    """The name keeps two books merged; told are the indexes of what is refused."""
    book, refused = merged(kept[words[2]], kept[words[3]])
    return words[1], book, _in_turn(refused)


def _show(kept, words):
    """The text of what a name keeps, of a book those of its deeds."""
    value = kept[words[1]]
    return _apart(value.story) if isinstance(value, Book) else str(value)


def _row_told(words):
    """The row that the words behind a deal's name tell."""
    return tuple([int(word) for word in words[2:]])


def _walk(kept, words):
    """Whether a row is good, or its first bad moment."""
    walk = RowWalk(kept[words[1]], _row_told(words))
    return "good" if walk.is_good else str(walk.first_bad.number)


def _play(kept, words):
    """Whether a row is played to its end, or where it is stopped."""
    paper = played(kept[words[1]], _row_told(words))
    return "whole" if paper.is_whole else str(paper.moment)


def _row(kept, words):
    """The first good row of a deal."""
    found = find_row(kept[words[1]])
    return _in_turn(found.row) if found else "stuck"


def _plan(kept, words):
    """A row of what is left of a book."""
    found = plan(kept[words[1]])
    return _in_turn(found.row) if found else "stuck"


def _count(kept, words):
    """How many good rows a deal has."""
    return str(Rows(kept[words[1]]).count)


def _need(kept, words):
    """The bounds that are enough for what is left of a book."""
    return str(enough_here(kept[words[1]]))


def _least(kept, words):
    """The least number of a deal on a dial."""
    found = least(kept[words[1]], kept[words[2]])
    return str(found.number) if found else "never"


def _patience(kept, words):
    """How much the next week has to be worth."""
    found = patience(kept[words[1]])
    return str(found.number) if found else "never"


def _front(kept, words):
    """The points of a deal's two dials."""
    found = front(kept[words[1]], kept[words[2]], kept[words[3]])
    return _apart([_in_turn(point) for point in found.points]) if found else "never"


def _pieces(kept, words):
    """Into how many pieces all have to be cut."""
    found = least_pieces(kept[words[1]], int(words[2]))
    return str(found.pieces) if found else "none"


def _fine(kept, words):
    """Whether some number of pieces does."""
    return "yes" if fine(kept[words[1]]) else "no"


def _classes(kept, words):
    """Which hand-overs have to be done at one moment."""
    return _apart([_in_turn(numbers) for numbers in classes(kept[words[1]])])


def _group(kept, words):
    """The least greatest group of a deal."""
    return str(least_group(kept[words[1]]).number)


def _most(kept, words):
    """The most hand-overs of a choice that can be ended."""
    return _in_turn(most_chosen(kept[words[1]]).numbers)


def _sums(kept, words):
    """The sums at all that is done in a book."""
    return _in_turn(kept[words[1]].sums_now)


def _hopes(kept, words):
    """The hopes of a book's strangers."""
    return _in_turn(kept[words[1]].hopes)


def _objecting(kept, words):
    """Who objects now in a book."""
    return _apart(kept[words[1]].objecting)


DEEDS = {
    "put": _put, "drop": _drop, "deal": _deal, "exchange": _exchange, "return": _return, "book": _book, "tell": _tell,
    "undo": _undo, "redo": _redo, "left": _left, "merge": _merge,
}
ASKS = {
    "show": _show, "walk": _walk, "play": _play, "row": _row, "plan": _plan, "count": _count, "need": _need,
    "least": _least, "patience": _patience, "front": _front, "pieces": _pieces, "fine": _fine, "classes": _classes,
    "group": _group, "most": _most, "sums": _sums, "hopes": _hopes, "objecting": _objecting,
}


class Desk:
    """Values kept under names."""

    def __init__(self):
        self.names = ()
        self._kept = {}
        # For each deed line: it, the name that it changed, and what this kept ahead of it, None for nothing.
        self._past = ()

    def __call__(self, line):
        return self._answer(line)

    def told(self, *lines):
        """The tuple of the answers to lines, all of which are done, or none."""
        names, kept, past = self.names, self._kept, self._past
        answers = []
        for index, line in enumerate(lines):
            try:
                answers.append(self._answer(line))
            except LastError as error:
                self.names, self._kept, self._past = names, kept, past
                raise BadLine(index, error)
        return tuple(answers)

    def undo(self):
        """Take the last deed line back, and return it."""
        if len(self._past) == 0:
            raise NoDeed()
        line, name, value = self._past[-1]
        self._past = self._past[:-1]
        self._keep(name, value)
        return line

    def deed_lines(self):
        """The tuple of the deed lines that were done and not taken back."""
        return tuple([told[0] for told in self._past])

    def value_of(self, name):
        """What a name keeps, of a book the twin; None for any value that is no name that keeps something."""
        if name not in self:
            return None
        value = self._kept[name]
        return value.twin() if isinstance(value, Book) else value

    def __contains__(self, x):
        return is_name(x) and x in self._kept

    def __len__(self):
        return len(self.names)

    def __iter__(self):
        return iter(self.names)

    def __eq__(self, other):
        return isinstance(other, Desk) and self._kept == other._kept

    def _answer(self, line):
        """The answer to a line, which is done."""
        words = read_line(line, {name: form_of(value) for name, value in self._kept.items()})
        if words[0] in ASKS:
            ask = ASKS[words[0]]
            return ask(self._kept, words)
        deed = DEEDS[words[0]]
        name, value, answer = deed(self._kept, words)
        self._past = (*self._past, (line, name, self._kept.get(name, None)))
        self._keep(name, value)
        return answer

    def _keep(self, name, value):
        """Let a name keep this value from now on, nothing if it is None; earlier values stay as they were."""
        kept = {one: told for one, told in self._kept.items() if one != name}
        if value is not None:
            kept[name] = value
        self._kept = kept
        self.names = tuple(sorted(list(kept)))
