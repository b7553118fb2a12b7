"""Whether papers about pieces are right."""

from lastgiver.checks import are_integers, is_integer, is_within
from lastgiver.deals import check_deal, check_no_leaning
from lastgiver.fine import (
    Fine, Unclosed, Unopened, added_up, can_give, can_take, check_fine, range_of, rooms_at, sums_behind,
)
from lastgiver.fitting import (
    MOST_EXTRA, MOST_HANDS, FewestPieces, LeastPieces, NoFewest, NoPieces, counts_in_turn, enough_pieces,
)
from lastgiver.matched import matches
from lastgiver.pieces import Pieced, Unpieced, are_counts_of_pieces, is_piece_order, piece_tracks
from lastgiver.ratios import Ratio, is_amount
from lastgiver.turned_deals import exchanged


def shows_pieced(deal, value):
    """Whether any value is a Pieced with a good piece order, or an Unpieced with tallies that show there is none."""
    _check_cuttable(deal)
    if type(value) is not Pieced and type(value) is not Unpieced:
        return False
    if not _are_counts(deal, value.counts):
        return False
    if type(value) is Pieced:
        return _is_good_order(deal, value.counts, value.order)
    return _are_closed(deal, value.counts, value.reached)


def shows_least_pieces(deal, value):
    """Whether any value is a LeastPieces or a NoPieces that is right."""
    _check_cuttable(deal)
    if type(value) is LeastPieces:
        if not is_within(value.pieces, 1, None) or not _all_deny(deal, value.denials, value.pieces - 1):
            return False
        return _is_good_order(deal, (value.pieces,) * len(deal.swap.hands), value.order)
    if type(value) is not NoPieces or not is_within(value.most, 1, None):
        return False
    return _all_deny(deal, value.denials, value.most)


def shows_fewest_pieces(deal, value):
    """Whether any value is a FewestPieces or a NoFewest that is right, for 6 hand-overs at most."""
    _check_cuttable(deal)
    many = len(deal.swap.hands)
    if many > MOST_HANDS:
        return False
    if type(value) is FewestPieces:
        if not _are_counts(deal, value.counts) or sum(value.counts) > many + MOST_EXTRA:
            return False
        ordered = counts_in_turn(many, MOST_EXTRA)
        if not _each_denies(deal, value.denials, ordered[:ordered.index(value.counts)]):
            return False
        return _is_good_order(deal, value.counts, value.order)
    if type(value) is not NoFewest or not is_within(value.extra, 0, MOST_EXTRA):
        return False
    return _each_denies(deal, value.denials, counts_in_turn(many, value.extra))


def shows_enough_pieces(deal, value):
    """Whether any value is what enough_pieces returns."""
    right = enough_pieces(deal)
    return type(value) is type(right) and matches(value.parts, right.parts)


def shows_fine(deal, value):
    """Whether any value is a Fine, an Unopened or an Unclosed that is right."""
    check_fine(deal)
    if type(value) is Unopened:
        return _are_all_told(deal, value.opened, value.against, "drawn", "leaves")
    if type(value) is Unclosed:
        return _are_all_told(exchanged(deal), value.closed, value.against, "leaves", "drawn")
    if type(value) is not Fine or not is_within(value.pieces, 1, None):
        return False
    if not _are_pairs(deal, value.opening, value.pieces) or not _are_pairs(deal, value.closing, value.pieces):
        return False
    if not _are_parts_of_one([*value.opening, *value.closing]):
        return False
    return _is_wide_enough(deal, value)


def _check_cuttable(deal):
    """Raise the errors of a deal that is not cut."""
    check_deal(deal)
    check_no_leaning(deal)


def _are_counts(deal, value):
    """Whether any value is a tuple of counts for a deal."""
    return isinstance(value, tuple) and len(value) == len(deal.swap.hands) and are_counts_of_pieces(value)


def _is_good_order(deal, counts, order):
    """Whether any value is a piece order that is good for these counts."""
    if not is_piece_order(counts, order):
        return False
    for track in piece_tracks(deal, counts):
        total = 0
        totals = [0]
        for number in order:
            total = total + track.effects[number]
            totals.append(total)
        if not all([track.bears(told) for told in totals]):
            return False
    return True


def _are_closed(deal, counts, tallies):
    """Whether any value has different allowed tallies beyond which nothing is allowed, not that of all pieces."""
    if not isinstance(tallies, tuple) or not all([_is_tally(counts, tally) for tally in tallies]):
        return False
    listed = {tally: True for tally in tallies}
    none = (0,) * len(counts)
    tracks = piece_tracks(deal, counts)
    if len(listed) < len(tallies) or counts in listed:
        return False
    if none not in listed and all([track.bears(0) for track in tracks]):
        return False
    return all([_leads_within(tracks, counts, tally, listed) for tally in tallies])


def _is_tally(counts, value):
    """Whether any value is a tuple that tells how many pieces of each hand-over are done."""
    if not are_integers(value) or len(value) != len(counts):
        return False
    return all([0 <= done <= count for done, count in zip(value, counts)])


def _leads_within(tracks, counts, tally, listed):
    """Whether a tally is allowed, and each allowed one with one piece more is listed."""
    totals = [sum([effect * done for effect, done in zip(track.effects, tally)]) for track in tracks]
    if not all([track.bears(total) for track, total in zip(tracks, totals)]):
        return False
    for number, count in enumerate(counts):
        if tally[number] < count and (*tally[:number], tally[number] + 1, *tally[number + 1:]) not in listed:
            if all([track.bears(total + track.effects[number]) for track, total in zip(tracks, totals)]):
                return False
    return True


def _all_deny(deal, denials, most):
    """Whether any value has for each number of pieces up to the most, in order, tallies that deny it."""
    if not isinstance(denials, tuple) or len(denials) != most:
        return False
    many = len(deal.swap.hands)
    return all([_are_closed(deal, (place + 1,) * many, tallies) for place, tallies in enumerate(denials)])


def _each_denies(deal, denials, ordered):
    """Whether any value has for each of these counts, in order, a pair of them and tallies that deny them."""
    if not isinstance(denials, tuple) or len(denials) != len(ordered):
        return False
    if not all([isinstance(pair, tuple) and len(pair) == 2 for pair in denials]):
        return False
    return all([
        matches(pair[0], counts) and _are_closed(deal, counts, pair[1])
        for pair, counts in zip(denials, ordered)
    ])


def _are_all_told(deal, opened, against, giving, taking):
    """Whether two values tell in order what opens, and against each other number who is, on these sides."""
    return _are_opened(deal, opened) and _all_are_against(deal, opened, against, giving, taking)


def _are_opened(deal, value):
    """Whether any value is a tuple of different numbers, each of which opens by those ahead, and not of all."""
    many = len(deal.swap.hands)
    if not are_integers(value) or not all([0 <= number < many for number in value]):
        return False
    if len({number for number in value}) != len(value) or len(value) == many:
        return False
    for place, number in enumerate(value):
        if not can_give(deal, value[:place], number) or not can_take(deal, value[:place], number):
            return False
    return True


def _all_are_against(deal, opened, against, giving, taking):
    """Whether any value has, ascending, for each number that does not open who is against it, and on which side."""
    others = [number for number in range(len(deal.swap.hands)) if number not in opened]
    if not isinstance(against, tuple) or len(against) != len(others):
        return False
    for number, told in zip(others, against):
        hand = deal.swap.hands[number]
        by_giver = matches(told, (number, hand.giver, giving)) and not can_give(deal, opened, number)
        by_taker = matches(told, (number, hand.taker, taking)) and not can_take(deal, opened, number)
        if not by_giver and not by_taker:
            return False
    return True


def _are_pairs(deal, value, pieces):
    """Whether any value is a tuple of pairs of a number and an amount above 0, which is so many whole pieces."""
    if not isinstance(value, tuple) or not all([isinstance(pair, tuple) and len(pair) == 2 for pair in value]):
        return False
    for number, amount in value:
        if not is_integer(number) or not 0 <= number < len(deal.swap.hands) or not is_amount(amount):
            return False
        if Ratio.of(amount).sign == 0 or not (Ratio.of(amount) * pieces).is_whole:
            return False
    return True


def _are_parts_of_one(pairs):
    """Whether the amounts of each number are at most 1 together."""
    totals = {}
    for number, amount in pairs:
        totals[number] = Ratio.of(amount) + totals.get(number, 0)
    return not any([Ratio(1).is_below(total) for total in totals.values()])


def _is_wide_enough(deal, value):
    """Whether nobody objects at the opening and at the closing of a Fine, and all have room between them."""
    none = added_up(deal.swap, ())
    last = added_up(deal.swap, value.closing)
    ahead = tuple([net - total for net, total in zip(deal.swap.nets, last)])
    opening = sums_behind(deal.swap, value.opening, none)
    closing = sums_behind(deal.swap, value.closing, ahead)
    rooms = [room for line in [*opening, *closing] for room in rooms_at(deal, line)]
    if not all([room is None or room.sign >= 0 for room in rooms]):
        return False
    for line in (opening[-1], ahead):
        for name, room in zip(deal.swap.strangers, rooms_at(deal, line)):
            asked = range_of(deal.swap, name) * len(deal.swap.strangers)
            if room is not None and (room * value.pieces).is_below(asked):
                return False
    return True
