"""Deals: a swap with bounds and leanings, and what is allowed in it."""

from lastgiver.bounds import Bounds, bounds_at
from lastgiver.cells import mask_of, sets_in, tracks_of
from lastgiver.checks import check_hand, done_told, integer_in, is_within, word_at, words_of
from lastgiver.errors import BadBounds, BadDeal, BadLeanings, BadText, Done, Leans, NoWay, TooMany, Unlike
from lastgiver.fields import Field, bound_slacks, leaning_slacks
from lastgiver.leanings import Leanings, are_pairs
from lastgiver.swaps import check_swap, swap_at_start

MOST_HANDS = 12


class Objection:
    """Who objects, on which side, "drawn" or "leaves", and by how much."""

    def __init__(self, name, side, amount):
        self.name = name
        self.side = side
        self.amount = amount

    def __eq__(self, other):
        if not isinstance(other, Objection) or self.name != other.name:
            return False
        return self.side == other.side and self.amount == other.amount

    def __str__(self):
        return " ".join([str(self.name), str(self.side), str(self.amount)])


class Deal:
    """A swap with bounds and leanings."""

    def __init__(self, swap, bounds, leanings=()):
        check_swap(swap)
        if not isinstance(bounds, Bounds):
            raise BadBounds("bounds")
        self.swap = swap
        self.bounds = bounds
        self.leanings = _leanings_told(len(swap.hands), leanings)
        if len(bounds.trusts) != len(swap.strangers):
            raise Unlike("bounds")
        if self.leanings.many != len(swap.hands):
            raise Unlike("leanings")
        self.tracks = tracks_of(swap, bounds)

    def __len__(self):
        return len(self.swap.hands)

    def __eq__(self, other):
        if not isinstance(other, Deal) or self.swap != other.swap:
            return False
        return self.bounds == other.bounds and self.leanings == other.leanings

    def is_allowed(self, done):
        """Whether the done set keeps all leanings and nobody objects at it."""
        return _allows(self, done_told(len(self.swap.hands), done, "done"))

    def objections(self, done):
        """The tuple of the Objections at a done set."""
        numbers = done_told(len(self.swap.hands), done, "done")
        return objections_at(self.swap.strangers, self.tracks, [track.total(numbers) for track in self.tracks])

    def broken(self, done):
        """The tuple of the leanings that a done set breaks."""
        return self.leanings.broken(done)

    def against(self, done, number):
        """What stands against one hand-over more: ("leaning", e), or the Objections."""
        told = done_told(len(self.swap.hands), done, "done")
        check_hand(len(self.swap.hands), number)
        if number in told:
            raise Done(number)
        behind = (*told, number)
        broken = self.leanings.broken(behind)
        if len(broken) > 0:
            return (("leaning", broken[0][0]),)
        return self.objections(behind)

    def moves(self, done):
        """The numbers not in the set against which nothing stands."""
        told = done_told(len(self.swap.hands), done, "done")
        wanted = self.leanings.wanted(told)
        totals = [track.total(told) for track in self.tracks]
        mask = mask_of(told)
        return tuple([
            number for number in range(len(self.swap.hands))
            if not mask >> number & 1
            and _keeps(mask | (1 << number), wanted | self.leanings.wanted([number]))
            and _bear(self.tracks, totals, number)
        ])

    def with_bounds(self, bounds):
        """The same swap and leanings with these bounds."""
        return Deal(self.swap, bounds, self.leanings)

    def __str__(self):
        return " ; ".join([str(self.swap), str(self.bounds), *_leanings_texts(self.leanings)])

    @classmethod
    def read(cls, text):
        """The Deal that the text tells."""
        words = words_of(text)
        swap, at = swap_at_start(words)
        if word_at(words, at) != ";":
            raise BadText(0, at)
        many = len(swap.strangers)
        bounds, at = bounds_at(words, at + 1, many, many)
        if at == len(words):
            return Deal(swap, bounds)
        if words[at] != ";":
            raise BadText(0, at)
        return Deal(swap, bounds, _pairs_at(words, at + 1, len(swap.hands)))


def check_deal(deal):
    """Raise BadDeal for any value that is no Deal."""
    if not isinstance(deal, Deal):
        raise BadDeal("deal")


def check_no_leaning(deal):
    """Raise Leans with the first leaning of a deal that has some."""
    if len(deal.leanings.pairs) > 0:
        one, other = deal.leanings.pairs[0]
        raise Leans(one, other)


def check_small_deal(deal):
    """Raise the error for what is no Deal, or has more hand-overs than can be tried in all orders."""
    check_deal(deal)
    if len(deal.swap.hands) > MOST_HANDS:
        raise TooMany("hands", MOST_HANDS)


def check_ends(deal):
    """Raise NoWay for a deal whose empty set, or else its full one, is not allowed, with the first who objects."""
    for done in ((), tuple(range(len(deal.swap.hands)))):
        objected = deal.objections(done)
        if len(objected) > 0:
            raise NoWay(done, objected[0].name)


def allowed_sets(deal):
    """The list of all allowed done sets."""
    check_small_deal(deal)
    return sets_in(field_of(deal).free_cells(), len(deal.swap.hands))


def field_of(deal):
    """The Field of the masks of done sets, those of sets that are not allowed being barred."""
    many = len(deal.swap.hands)
    slacks = bound_slacks(deal.tracks, list(range(many))) + leaning_slacks(deal.leanings.pairs, many)
    return Field(slacks, [1] * many)


def objections_at(strangers, tracks, totals):
    """The tuple of the Objections at these sums, which are told in the scales of the tracks."""
    found = []
    for name, track, total in zip(strangers, tracks, totals):
        for side, amount in (("drawn", track.drawn_by(total)), ("leaves", track.leaves_by(total))):
            if amount.sign > 0:
                found.append(Objection(name, side, amount))
    return tuple(found)


def first_bad_moment(deal, row):
    """The first moment of a row whose done set is not allowed, or None."""
    for moment in range(len(row) + 1):
        if not _allows(deal, row[:moment]):
            return moment
    return None


def _allows(deal, numbers):
    """Whether the set of these different hand-overs is allowed."""
    if not _keeps(mask_of(numbers), deal.leanings.wanted(numbers)):
        return False
    return all([track.bears(track.total(numbers)) for track in deal.tracks])


def _keeps(mask, wanted):
    """Whether a set has all on which it leans."""
    return wanted & mask == wanted


def _bear(tracks, totals, number):
    """Whether all strangers bear one hand-over more."""
    return all([track.bears(total + track.effects[number]) for track, total in zip(tracks, totals)])


def _leanings_told(many, leanings):
    """The Leanings that are told, themselves or by their pairs."""
    if isinstance(leanings, Leanings):
        return leanings
    if not are_pairs(leanings):
        raise BadLeanings("leanings")
    return Leanings(many, leanings)


def _leanings_texts(leanings):
    """A list with the text of the leanings; an empty one if there are none."""
    if len(leanings.pairs) == 0:
        return []
    return [" , ".join([f"{one} {other}" for one, other in leanings.pairs])]


def _number_at(words, at, least, many):
    """The number of a hand-over, from least on, that the word at this place tells."""
    number = integer_in(word_at(words, at))
    if not is_within(number, least, many - 1):
        raise BadText(0, at)
    return number


def _pairs_at(words, at, many):
    """The pairs of leanings that are told from this place on, to the end."""
    pairs = []
    ahead = [0] * many
    while True:
        one = _number_at(words, at, pairs[-1][0] if pairs else 0, many)
        other = _number_at(words, at + 1, 0, many)
        if one == other or ahead[one] >> other & 1 or (pairs and (one, other) <= pairs[-1]):
            raise BadText(0, at + 1)
        pairs.append((one, other))
        ahead = _ahead_with(ahead, one, other)
        if at + 2 == len(words):
            return pairs
        if words[at + 2] != ",":
            raise BadText(0, at + 2)
        at = at + 3


def _ahead_with(ahead, one, other):
    """For each number the mask of those on which it leans, if one more pair (one, other) is told."""
    more = ahead[one] | (1 << one)
    return [
        mask | more if number == other or mask >> other & 1 else mask
        for number, mask in enumerate(ahead)
    ]
