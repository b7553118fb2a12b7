"""Whether papers about keepers and laid pledges are right; what a keeper has in hand, moment by moment."""

from lastgiver.cells import mask_of
from lastgiver.check_rows import is_closed_list
from lastgiver.checks import is_done_set, is_name, is_row
from lastgiver.deals import check_deal, first_bad_moment
from lastgiver.errors import BadPaper
from lastgiver.held_ways import Held, NotHeld
from lastgiver.keepers import check_kept, keeper_named
from lastgiver.laid import MOST_LAID, LeastLaid, NeverLaid, amounts_tried, shifted
from lastgiver.matched import matches
from lastgiver.moved import MOST_HANDS, allowed_masks, sets_along
from lastgiver.purses import MOST_RELYING, LeastPurse, NoPurse, Reliers, reliers_tried
from lastgiver.ratios import Ratio, is_amount
from lastgiver.strokes import Worths, holders_of
from lastgiver.swaps import check_stranger


def shows_held(deal, keepers, value):
    """Whether any value is a Held of a held way, or a NotHeld of sets beyond which no stroke leads."""
    check_kept(deal, keepers)
    if len(deal.swap.hands) > MOST_HANDS:
        return False
    if type(value) is Held:
        return _are_strokes(deal, holders_of(keepers), value.strokes)
    return type(value) is NotHeld and _are_closed(deal, holders_of(keepers), value.sets)


def shows_least_purse(deal, keepers, name, value):
    """Whether any value is a LeastPurse or a NoPurse that is right."""
    check_kept(deal, keepers, name)
    if len(deal.swap.hands) > MOST_HANDS:
        return False
    worths = Worths(keepers)
    keeper = keeper_named(keepers, name)
    others = worths.told_of([one for one in keepers.keepers if one.name != name])
    if type(value) is NoPurse:
        return _are_closed(deal, worths.holders([*others, (name, worths.relied(keeper))]), value.sets)
    if type(value) is not LeastPurse or not is_amount(value.number):
        return False
    if not _are_strokes(deal, holders_of(keepers.placed(keeper.with_purse(value.number))), value.strokes):
        return False
    if Ratio.of(value.number).sign == 0:
        return value.fence == ()
    return _are_closed(deal, worths.holders([*others, (name, worths.held_below(keeper, value.number))]), value.fence)


def shows_reliers(deal, keepers, name, value):
    """Whether any value is a Reliers that is right."""
    check_kept(deal, keepers, name)
    if type(value) is not Reliers or len(deal.swap.hands) > MOST_RELYING:
        return False
    least, barred = reliers_tried(deal, keepers, name)
    strokes = _told_for(value.least, [names for names, holders, ahead in least])
    sets = _told_for(value.barred, [names for names, holders, ahead in barred])
    if strokes is None or sets is None:
        return False
    if not all([_are_strokes(deal, holders, strokes[names]) for names, holders, ahead in least]):
        return False
    return all([_are_closed(deal, holders, sets[names]) for names, holders, ahead in barred])


def shows_least_laid(deal, name, value):
    """Whether any value is a LeastLaid or a NeverLaid that is right."""
    check_deal(deal)
    check_stranger(deal.swap, name)
    if len(deal.swap.hands) > MOST_LAID:
        return False
    tried = amounts_tried(deal, name)
    if type(value) is NeverLaid:
        return _are_closed_lists(deal, name, tried, value.closed)
    if type(value) is not LeastLaid or not is_amount(value.number) or value.number not in tried:
        return False
    if not is_row(len(deal.swap.hands), value.row):
        return False
    if first_bad_moment(shifted(deal, {name: value.number}), value.row) is not None:
        return False
    return _are_closed_lists(deal, name, [amount for amount in tried if amount.is_below(value.number)], value.closed)


def hand_moments(deal, keepers, held):
    """Yield, stroke by stroke, what is handed over, in and out, and what the keeper then has in hand."""
    check_kept(deal, keepers)
    if type(held) is not Held or not shows_held(deal, keepers, held):
        raise BadPaper("held")
    for group, name in held.strokes:
        if name is None:
            yield ("over", group[0], Ratio(0))
        else:
            worth = Ratio(0)
            for number in group:
                worth = worth + keepers.worths[number]
                yield ("in", number, worth)
            for number in group:
                worth = worth - keepers.worths[number]
                yield ("out", number, worth)


def _are_strokes(deal, holders, value):
    """Whether any value has the strokes of a held way."""
    if not isinstance(value, tuple) or not all([isinstance(pair, tuple) and len(pair) == 2 for pair in value]):
        return False
    many = len(deal.swap.hands)
    if not all([is_done_set(many, group) and (name is None or is_name(name)) for group, name in value]):
        return False
    if not all([name in holders[mask_of(group)] for group, name in value]):
        return False
    groups = [group for group, name in value]
    if sorted([number for group in groups for number in group]) != list(range(many)):
        return False
    return all([deal.is_allowed(done) for done in sets_along(groups)])


def _are_closed(deal, holders, value):
    """Whether any value has, in any order, allowed sets, not the full one, beyond which no stroke leads."""
    many = len(deal.swap.hands)
    if not isinstance(value, tuple) or not all([is_done_set(many, done) for done in value]):
        return False
    masks = allowed_masks(deal)
    listed = {mask_of(done): True for done in value}
    if len(listed) < len(value) or (1 << many) - 1 in listed or not all([mask in masks for mask in listed]):
        return False
    if 0 in masks and 0 not in listed:
        return False
    return all([
        mask in listed or len(holders[inner ^ mask]) == 0
        for inner in listed for mask in masks
        if inner & mask == inner
    ])


def _told_for(value, ordered):
    """What any value, a tuple of pairs in any order, tells for each of these tuples of names, a dict; or None."""
    if not isinstance(value, tuple) or not all([isinstance(pair, tuple) and len(pair) == 2 for pair in value]):
        return None
    if not all([isinstance(names, tuple) and all([is_name(name) for name in names]) for names, told in value]):
        return None
    if sorted([names for names, told in value]) != sorted(ordered):
        return None
    return {names: told for names, told in value}


def _are_closed_lists(deal, name, amounts, value):
    """Whether any value has, in any order, for just these amounts the pairs of them and a closed list."""
    if not isinstance(value, tuple) or not all([isinstance(pair, tuple) and len(pair) == 2 for pair in value]):
        return False
    if len(value) != len(amounts):
        return False
    for amount in amounts:
        told = [sets for number, sets in value if matches(number, amount)]
        if len(told) != 1 or not is_closed_list(shifted(deal, {name: amount}), told[0]):
            return False
    return True
