"""Which hand-overs have to be done at one moment, and which never behind others."""

from lastgiver.cells import mask_of, sets_in_order
from lastgiver.checks import check_hand
from lastgiver.deals import check_deal, check_ends
from lastgiver.errors import Twice
from lastgiver.moved import allowed_masks, check_few_hands, check_few_ways
from lastgiver.papers import Denial, Paper, fixed


class Parted(Paper):
    """An allowed set that parts two hand-overs."""

    def __init__(self, done):
        self.word = "parted"
        self.parts = fixed((done,))
        self.done = self.parts[0]


class Together(Denial):
    """For each set that would part two hand-overs what bars it."""

    def __init__(self, lines):
        self.word = "together"
        self.parts = fixed((lines,))
        self.lines = self.parts[0]


def parting(deal, e, f):
    """The Parted with the first allowed set that has just one of two hand-overs, or the Together of all that have."""
    check_two(deal, e, f)
    check_few_hands(deal)
    return _first_allowed(deal, parting_sets(deal, e, f))


def behind(deal, e, f):
    """The Parted with the first allowed set that has f and not e, or the Together of all that have."""
    check_two(deal, e, f)
    check_few_hands(deal)
    return _first_allowed(deal, sets_ahead(deal, e, f))


def classes(deal):
    """The classes, ascending tuples, by their first numbers."""
    check_few_ways(deal)
    alike = {}
    for number, column in enumerate(_columns(deal)):
        alike.setdefault(column, []).append(number)
    return tuple([tuple(numbers) for numbers in alike.values()])


def never_behind(deal):
    """All pairs (e, f) of different numbers such that e is never behind f, ascending."""
    check_few_ways(deal)
    columns = _columns(deal)
    hands = range(len(columns))
    return tuple([(e, f) for e in hands for f in hands if e != f and columns[e] & columns[f] == columns[f]])


def check_two(deal, e, f):
    """Raise the errors of two hand-overs of a deal that has a way."""
    check_deal(deal)
    check_hand(len(deal.swap.hands), e)
    check_hand(len(deal.swap.hands), f)
    if e == f:
        raise Twice(e)
    check_ends(deal)


def parting_sets(deal, e, f):
    """The list of all sets that have just one of two hand-overs."""
    return [done for done in sets_in_order(len(deal.swap.hands)) if (e in done) != (f in done)]


def sets_ahead(deal, e, f):
    """The list of all sets that have f and not e."""
    return [done for done in sets_in_order(len(deal.swap.hands)) if f in done and e not in done]


def reasons_against(deal, done):
    """What bars a set: the leanings that it breaks, then a triple for each objection at it."""
    objected = deal.objections(done)
    return deal.broken(done) + tuple([(told.name, told.side, told.amount) for told in objected])


def _first_allowed(deal, sets):
    """The Parted with the first of the sets that is allowed, or the Together of all."""
    lines = []
    for done in sets:
        reasons = reasons_against(deal, done)
        if len(reasons) == 0:
            return Parted(done)
        lines.append((done, reasons[0]))
    return Together(lines)


def _columns(deal):
    """For each hand-over the mask of the places of the allowed sets that have it."""
    masks = allowed_masks(deal)
    return [
        mask_of([place for place, mask in enumerate(masks) if mask >> number & 1])
        for number in range(len(deal.swap.hands))
    ]
