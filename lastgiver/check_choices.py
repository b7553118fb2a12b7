"""Whether papers about choices are right."""

from lastgiver.cells import mask_of
from lastgiver.check_rows import leads_within
from lastgiver.checks import are_integers, done_told, is_done_set
from lastgiver.choices import MOST_HANDS, Choice
from lastgiver.deals import check_deal
from lastgiver.doable import (
    Best, ChoiceFront, Ended, NoChoice, StuckChoice, choices_holding, drawn_at, gainful_choices, is_better, nets_of,
    ranks_by_gain, ranks_by_number,
)
from lastgiver.matched import matches


def shows_ended(deal, value):
    """Whether any value is an Ended with a row that ends its choice."""
    check_deal(deal)
    if type(value) is not Ended or not _are_choice_and_done(deal, value.numbers, value.done):
        return False
    return _ends(Choice(deal, value.numbers), value.done, value.row)


def shows_stuck_choice(deal, value):
    """Whether any value is a StuckChoice of sets beyond which no single move leads."""
    check_deal(deal)
    return _is_stuck(deal, value)


def shows_no_choice(deal, value):
    """Whether any value is a NoChoice with the first who is drawn out."""
    check_deal(deal)
    if type(value) is not NoChoice or not is_done_set(len(deal.swap.hands), value.done):
        return False
    right = drawn_at(deal, value.done)
    return right is not None and matches(value.parts, right.parts)


def shows_most(deal, done, value):
    """Whether any value is a Best by the number of hand-overs."""
    told = _done_of(deal, done)
    if type(value) is not Best or len(deal.swap.hands) > MOST_HANDS:
        return False
    ordered = choices_holding(deal, told)
    return _is_best(deal, ordered, ranks_by_number(ordered), told, value)


def shows_brings_most(deal, done, value):
    """Whether any value is a Best by what choices bring."""
    told = _done_of(deal, done)
    if type(value) is not Best or len(deal.swap.hands) > MOST_HANDS:
        return False
    ordered = choices_holding(deal, told)
    return _is_best(deal, ordered, ranks_by_gain(ordered), told, value)


def shows_gainful_most(deal, value):
    """Whether any value is a Best of the gainful choices, by what they bring."""
    check_deal(deal)
    if type(value) is not Best or len(deal.swap.hands) > MOST_HANDS:
        return False
    ordered = gainful_choices(deal, ())
    return _is_best(deal, ordered, ranks_by_gain(ordered), (), value)


def shows_choice_front(deal, done, value):
    """Whether any value is a ChoiceFront that is right."""
    told = _done_of(deal, done)
    if type(value) is not ChoiceFront or len(deal.swap.hands) > MOST_HANDS:
        return False
    if not _are_points(deal, told, value.points) or not _are_all_stuck(deal, value.others):
        return False
    points = [nets_of(Choice(deal, numbers)) for numbers, row in value.points]
    if any([is_better(one, other) for one in points for other in points]):
        return False
    known = [numbers for numbers, row in value.points] + _stuck_from(told, value.others)
    return all([
        choice.numbers in known or any([is_better(point, nets_of(choice)) for point in points])
        for choice in choices_holding(deal, told)
    ])


def _done_of(deal, done):
    """The done set of a deal."""
    check_deal(deal)
    return done_told(len(deal.swap.hands), done, "done")


def _are_choice_and_done(deal, numbers, done):
    """Whether two values are the numbers of a choice, and a done set of some of these."""
    many = len(deal.swap.hands)
    if not is_done_set(many, numbers) or not is_done_set(many, done):
        return False
    return all([number in numbers for number in done])


def _ends(choice, done, row):
    """Whether any value is a row behind done that ends a choice."""
    left = [number for number in choice.numbers if number not in done]
    if not are_integers(row) or sorted(list(row)) != left:
        return False
    places = {number: place for place, number in enumerate(choice.numbers)}
    begun = [places[number] for number in done]
    moved = [places[number] for number in row]
    return all([choice.inner.is_allowed([*begun, *moved[:moment]]) for moment in range(len(moved) + 1)])


def _is_stuck(deal, value):
    """Whether any value is a right StuckChoice."""
    if type(value) is not StuckChoice or not _are_choice_and_done(deal, value.numbers, value.done):
        return False
    sets = value.sets
    if not isinstance(sets, tuple) or not all([_are_choice_and_done(deal, value.numbers, one) for one in sets]):
        return False
    if not all([number in one for one in sets for number in value.done]):
        return False
    inner = Choice(deal, value.numbers).inner
    places = {number: place for place, number in enumerate(value.numbers)}
    begun = [places[number] for number in value.done]
    within = [[places[number] for number in one] for one in sets]
    listed = {mask_of(one): True for one in within}
    if len(listed) < len(sets) or (1 << len(value.numbers)) - 1 in listed:
        return False
    if mask_of(begun) not in listed and inner.is_allowed(begun):
        return False
    return all([leads_within(inner, one, listed) for one in within])


def _are_all_stuck(deal, value):
    """Whether any value is a tuple of right StuckChoices."""
    return isinstance(value, tuple) and all([_is_stuck(deal, other) for other in value])


def _stuck_from(done, others):
    """The list of the numbers of those of the StuckChoices that are told from a done set."""
    return [other.numbers for other in others if other.done == done]


def _is_best(deal, ordered, ranks, done, value):
    """Whether a Best tells one of these choices, a row that ends it, and a StuckChoice of each better one."""
    told = [choice.numbers for choice in ordered]
    if not is_done_set(len(deal.swap.hands), value.numbers) or value.numbers not in told:
        return False
    place = told.index(value.numbers)
    if not _ends(ordered[place], done, value.row) or not _are_all_stuck(deal, value.others):
        return False
    stuck = _stuck_from(done, value.others)
    return all([told[rank[-1]] in stuck for rank in ranks if rank < ranks[place]])


def _are_points(deal, done, value):
    """Whether any value is a tuple of pairs of different choices that hold a done set, and rows that end them."""
    if not isinstance(value, tuple) or not all([isinstance(pair, tuple) and len(pair) == 2 for pair in value]):
        return False
    if not all([_are_choice_and_done(deal, numbers, done) for numbers, row in value]):
        return False
    if len({numbers for numbers, row in value}) < len(value):
        return False
    return all([_ends(Choice(deal, numbers), done, row) for numbers, row in value])
