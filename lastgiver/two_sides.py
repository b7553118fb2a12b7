"""Deals of two strangers, each of whom gives things of one kind."""

from lastgiver.bounds import Bounds
from lastgiver.cells import Track
from lastgiver.checks import is_within
from lastgiver.deals import objections_at
from lastgiver.errors import BadBounds, BadHandOver, BadNumber, NoWay, TooMany, Unlike
from lastgiver.papers import Denial, Paper, fixed
from lastgiver.swaps import HandOver

MOST_THINGS = 500


class Sides(Paper):
    """A good tuple of 0 and 1, for who gives next."""

    def __init__(self, row):
        self.word = "sides"
        self.parts = fixed((row,))
        self.row = self.parts[0]


class Gap(Denial):
    """A gap: there is no good row."""

    def __init__(self, place):
        self.word = "gap"
        self.parts = fixed((place,))
        self.place = self.parts[0]


def two_sides(one, many, other, more, bounds):
    """The Sides with the first good tuple, or the Gap with the least gap."""
    check_sides(one, many, other, more, bounds)
    if many > MOST_THINGS or more > MOST_THINGS:
        raise TooMany("hands", MOST_THINGS)
    tracks = side_tracks(one, many, other, more, bounds)
    stretches = [stretch_at(tracks, place, more) for place in range(many + 1)]
    for place in range(many):
        if is_gap(stretches[place], stretches[place + 1]):
            return Gap(place)
    return Sides(_first_tuple(stretches, more))


def check_sides(one, many, other, more, bounds):
    """Raise the errors of what cannot be told of two sides."""
    if not isinstance(one, HandOver):
        raise BadHandOver("one")
    if not is_within(many, 0, None):
        raise BadNumber("many")
    if not isinstance(other, HandOver):
        raise BadHandOver("other")
    if not is_within(more, 0, None):
        raise BadNumber("more")
    if not isinstance(bounds, Bounds):
        raise BadBounds("bounds")
    if one.giver != other.taker or one.taker != other.giver:
        raise Unlike("strangers")
    if len(bounds.trusts) != 2:
        raise Unlike("bounds")


def side_tracks(one, many, other, more, bounds):
    """The Tracks of both strangers; NoWay if none, or if all, cannot be done."""
    tracks = []
    for place, name in enumerate((one.giver, one.taker)):
        effects = [one.effect(name), other.effect(name)]
        net = effects[0] * many + effects[1] * more
        tracks.append(Track(effects, net, bounds.trusts[place], bounds.pledges[place]))
    for counts in ((0, 0), (many, more)):
        objected = objections_at((one.giver, one.taker), tracks, _totals_at(tracks, counts))
        if len(objected) > 0:
            raise NoWay(counts, objected[0].name)
    return tracks


def _totals_at(tracks, counts):
    """Both sums behind so many things of each side."""
    return [track.effects[0] * counts[0] + track.effects[1] * counts[1] for track in tracks]


def stretch_at(tracks, place, more):
    """The least and the greatest number of the second one's things that go with so many of the first one's.

    If none goes, the least is above the greatest.
    """
    least = 0
    most = more
    for track in tracks:
        # Without a step the sum lies between those of none and of all, and these are allowed.
        if track.effects[1] != 0:
            first, last = _steps_within(track, track.effects[0] * place, track.effects[1])
            least = least if first is None else max(least, first)
            most = most if last is None else min(most, last)
    return least, most


def is_gap(stretch, next_stretch):
    """Whether nothing is in both stretches."""
    return max(stretch[0], next_stretch[0]) > min(stretch[1], next_stretch[1])


def _steps_within(track, given, step):
    """From which to which number of steps, not 0, a sum stays within the bounds; None is no bound."""
    low = None if track.low is None else track.low - given
    high = None if track.high is None else track.high - given
    near, far = (low, high) if step > 0 else (high, low)
    first = None if near is None else -(-near // step)
    last = None if far is None else far // step
    return first, last


def _first_tuple(stretches, more):
    """The first good tuple where there is no gap: then no allowed counts are stuck."""
    row = []
    place = 0
    told = 0
    while place < len(stretches) - 1 or told < more:
        if place < len(stretches) - 1 and stretches[place + 1][0] <= told <= stretches[place + 1][1]:
            place = place + 1
            row.append(0)
        else:
            told = told + 1
            row.append(1)
    return row
