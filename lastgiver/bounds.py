"""Trusts and pledges of all strangers."""

from lastgiver.checks import check_end, is_listed, is_within, word_at, words_of
from lastgiver.errors import BadBounds, BadNumber, BadText, Unlike
from lastgiver.ratios import Ratio, amount_at, greatest_of, is_amount

LEAST_STRANGERS = 2
MOST_STRANGERS = 6
WIDE = "wide"


class Bounds:
    """For each stranger a trust and a pledge; None is wide, no bound at all."""

    def __init__(self, trusts, pledges):
        if not _are_bounds(trusts):
            raise BadBounds("trusts")
        if not _are_bounds(pledges):
            raise BadBounds("pledges")
        if len(trusts) != len(pledges):
            raise Unlike("pledges")
        self.trusts = tuple([kept_bound(trust) for trust in trusts])
        self.pledges = tuple([kept_bound(pledge) for pledge in pledges])

    def __len__(self):
        return len(self.trusts)

    def __eq__(self, other):
        return isinstance(other, Bounds) and self.trusts == other.trusts and self.pledges == other.pledges

    @staticmethod
    def alike(many, trust, pledge):
        """The same trust and the same pledge for all."""
        if not is_within(many, LEAST_STRANGERS, MOST_STRANGERS):
            raise BadNumber("many")
        check_bound(trust, "trust")
        check_bound(pledge, "pledge")
        return Bounds([trust] * many, [pledge] * many)

    @staticmethod
    def zero(many):
        """Trust 0 and pledge 0 for all."""
        return Bounds.alike(many, 0, 0)

    def exchanged(self):
        """The Bounds with each trust and pledge exchanged."""
        return Bounds(self.pledges, self.trusts)

    def with_trust(self, place, trust):
        """The Bounds with this trust for the stranger with this place."""
        self._check_place(place)
        check_bound(trust, "trust")
        return Bounds(_placed(self.trusts, place, trust), self.pledges)

    def with_pledge(self, place, pledge):
        """The Bounds with this pledge for the stranger with this place."""
        self._check_place(place)
        check_bound(pledge, "pledge")
        return Bounds(self.trusts, _placed(self.pledges, place, pledge))

    def covers(self, other):
        """Whether each trust and each pledge is at least that of other."""
        self._check_other(other)
        mine = [*self.trusts, *self.pledges]
        others = [*other.trusts, *other.pledges]
        return all([_reaches(bound, told) for bound, told in zip(mine, others)])

    def __or__(self, other):
        self._check_other(other)
        trusts = [_greater(bound, told) for bound, told in zip(self.trusts, other.trusts)]
        pledges = [_greater(bound, told) for bound, told in zip(self.pledges, other.pledges)]
        return Bounds(trusts, pledges)

    def __str__(self):
        return " , ".join([_pair_text(trust, pledge) for trust, pledge in zip(self.trusts, self.pledges)])

    @classmethod
    def read(cls, text):
        """The Bounds that the text tells."""
        words = words_of(text)
        bounds, end = bounds_at(words, 0, LEAST_STRANGERS, MOST_STRANGERS)
        check_end(words, end)
        return bounds

    def _check_place(self, place):
        """Raise BadNumber for what is no stranger's place."""
        if not is_within(place, 0, len(self.trusts) - 1):
            raise BadNumber("place")

    def _check_other(self, other):
        """Raise the error for what are no Bounds of as many strangers."""
        if not isinstance(other, Bounds):
            raise BadBounds("other")
        if len(self.trusts) != len(other.trusts):
            raise Unlike("other")


def is_bound(value):
    """Whether any value is a ratio from 0 on, or None."""
    return value is None or is_amount(value)


def check_bound(value, part):
    """Raise BadBounds for any value that is no bound."""
    if not is_bound(value):
        raise BadBounds(part)


def _are_bounds(value):
    """Whether any value is a list or tuple of bounds, as many as strangers can be."""
    if not is_listed(value) or not LEAST_STRANGERS <= len(value) <= MOST_STRANGERS:
        return False
    return all([is_bound(item) for item in value])


def kept_bound(bound):
    """The bound as Bounds keep it."""
    return None if bound is None else Ratio.of(bound)


def _placed(bounds, place, bound):
    """These bounds, with this one in the place told."""
    return [*bounds[:place], bound, *bounds[place + 1:]]


def _reaches(bound, other):
    """Whether a bound is at least the other one."""
    if bound is None:
        return True
    return other is not None and not bound.is_below(other)


def _greater(bound, other):
    """The greater one of two bounds."""
    return None if bound is None or other is None else greatest_of([bound, other])


def _pair_text(trust, pledge):
    """The text of one stranger's bounds."""
    return f"{bound_text(trust)} {bound_text(pledge)}"


def bound_text(bound):
    """The word that tells a bound."""
    return WIDE if bound is None else str(bound)


def bound_at(words, at):
    """The bound that the word at this place tells."""
    return None if word_at(words, at) == WIDE else amount_at(words, at)


def bounds_at(words, at, least, most):
    """The Bounds told from this place on, of least to most strangers, and the place behind them."""
    trusts = [bound_at(words, at)]
    pledges = [bound_at(words, at + 1)]
    end = at + 2
    while end < len(words) and words[end] == "," and len(trusts) < most:
        trusts.append(bound_at(words, end + 1))
        pledges.append(bound_at(words, end + 2))
        end = end + 3
    if len(trusts) < least:
        raise BadText(0, end)
    return Bounds(trusts, pledges), end
