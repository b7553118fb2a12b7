"""Whether papers about least numbers, fronts and patience are right."""

from lastgiver.cells import mask_of
from lastgiver.checks import are_integers, ascends, is_integer
from lastgiver.deals import check_deal
from lastgiver.dials import Dial
from lastgiver.fronts import Front, seen_from_both
from lastgiver.least import Least, Never, pinch_of, seen_from
from lastgiver.matched import matches
from lastgiver.patience import Patience, share_of
from lastgiver.ratios import Ratio, is_amount


def shows_least(deal, dial, value, done=()):
    """Whether any value is a Least or a Never that is right, from a done set on."""
    seen = seen_from(deal, dial, done)
    if type(value) is Never:
        return _are_just_reached(seen, [None], value.sets)
    return type(value) is Least and _is_right_least(seen, value)


def shows_front(deal, one, other, value):
    """Whether any value is a Front or a Never that is right."""
    seen = seen_from_both(deal, one, other)
    if type(value) is Never:
        return _are_just_reached(seen, [None, None], value.sets)
    if type(value) is not Front or not _are_points(value.points):
        return False
    many = len(value.points)
    if not _are_many(value.rows, many) or not _are_many(value.fences, many + 1):
        return False
    if not all([_is_good_at(seen, point, row) for point, row in zip(value.points, value.rows)]):
        return False
    firsts = [*[point[0] for point in value.points], None]
    seconds = [None, *[point[1] for point in value.points]]
    return all([
        _are_just_reached(seen, [first, second], fence)
        for first, second, fence in zip(firsts, seconds, value.fences)
    ])


def shows_patience(deal, value):
    """Whether any value is a Patience with a right Least, or a Never that is right."""
    check_deal(deal)
    dial = Dial.by_weeks(deal.swap)
    if type(value) is Never:
        return shows_least(deal, dial, value)
    if type(value) is not Patience:
        return False
    factor = value.factor
    if type(factor) is not Least or not shows_least(deal, dial, factor):
        return False
    return matches(value.number, share_of(factor.number))


def _is_right_least(seen, value):
    """Whether a Least has a row that is good at its number, its pinch there, and just the fence."""
    if not is_amount(value.number) or not is_integer(value.pinch) or not _is_good_at(seen, [value.number], value.row):
        return False
    if value.pinch != pinch_of(seen, seen.field_below([value.number]), value.row):
        return False
    return _are_just_reached(seen, [value.number], value.fence)


def _is_good_at(seen, numbers, row):
    """Whether any value is a row of what is left that is good at these numbers of the dials."""
    if not are_integers(row) or sorted(list(row)) != list(seen.numbers):
        return False
    field = seen.field_at(numbers)
    return all([field.is_free(state) for state in seen.states_along(field, row)])


def _are_just_reached(seen, numbers, sets):
    """Whether any value has, in their order, just the sets that are reached below these numbers, not the full one."""
    masks = _masks_told(seen, sets)
    if masks is None:
        return False
    field = seen.field_below(numbers)
    listed = {mask: True for mask in masks}
    if (1 << len(seen.numbers)) - 1 in listed:
        return False
    if 0 not in listed:
        return len(masks) == 0 and not field.is_free(field.start)
    return all([_is_reached_and_leads_within(field, mask, listed) for mask in masks])


def _is_reached_and_leads_within(field, mask, listed):
    """Whether a set is free, and first or one more than a listed one, and free sets one more than it are listed."""
    places = [place for place in range(len(field.steps)) if mask >> place & 1]
    state = field.start + sum([field.steps[place] for place in places])
    if not field.is_free(state) or not (mask == 0 or any([mask - (1 << place) in listed for place in places])):
        return False
    # No cell is free behind a second step of one place.
    return all([
        mask | (1 << place) in listed for place, step in enumerate(field.steps)
        if field.is_free(state + step)
    ])


def _masks_told(seen, sets):
    """The masks, among what is left, of any value that is a tuple of different done sets in their order, or None."""
    if not isinstance(sets, tuple) or not all([are_integers(done) for done in sets]):
        return None
    ordered = [(len(done), done) for done in sets]
    if not ascends(ordered) or not all([ascends(done) for done in sets]):
        return None
    places = {number: place for place, number in enumerate(seen.numbers)}
    known = [*seen.done, *seen.numbers]
    masks = []
    for done in sets:
        if not all([number in known for number in done]) or not all([number in done for number in seen.done]):
            return None
        masks.append(mask_of([places[number] for number in done if number in places]))
    return masks


def _are_points(value):
    """Whether any value is a tuple of one or more points, whose first numbers ascend and whose second ones descend."""
    if not isinstance(value, tuple) or len(value) == 0 or not all([_are_many(point, 2) for point in value]):
        return False
    if not all([is_amount(number) for point in value for number in point]):
        return False
    points = [(Ratio.of(x), Ratio.of(y)) for x, y in value]
    return all([
        points[place][0].is_below(points[place + 1][0]) and points[place + 1][1].is_below(points[place][1])
        for place in range(len(points) - 1)
    ])


def _are_many(value, many):
    """Whether any value is a tuple of so many items."""
    return isinstance(value, tuple) and len(value) == many
