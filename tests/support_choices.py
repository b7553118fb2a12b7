"""Plain answers on choices by trying all; what is right, told as the document tells it."""

import itertools
import random
from fractions import Fraction

from lastgiver.bounds import Bounds
from lastgiver.deals import Deal
from lastgiver.doable import StuckChoice
from lastgiver.ratios import Ratio
from lastgiver.swaps import Swap

from support import CUP, all_sets, is_same, plain_allowed, plain_closure, plain_objections, plain_sums, random_deals
from support_ways import is_set, pairs_in

LIKED = Deal(CUP, Bounds([2, 2], [2, 1]))


def inner_of(deal, numbers):
    """The inner deal of a choice, made by hand."""
    places = {number: place for place, number in enumerate(numbers)}
    hands = [deal.swap.hands[number] for number in numbers]
    pairs = [(places[e], places[f]) for e, f in deal.leanings.pairs if e in places and f in places]
    return Deal(Swap(deal.swap.strangers, hands), deal.bounds, pairs)


def allowed_within(deal, numbers):
    """The sets, in the deal's numbers, that are allowed in the inner deal."""
    inner = inner_of(deal, numbers)
    return [tuple(numbers[place] for place in done) for done in all_sets(len(numbers)) if plain_allowed(inner, done)]


def plain_sets(deal, numbers, done):
    """All sets to which single moves lead from done in the inner deal, in order."""
    places = {number: place for place, number in enumerate(numbers)}
    allowed = [tuple(places[number] for number in one) for one in allowed_within(deal, numbers)]
    begun = tuple(places[number] for number in done)
    return [tuple(numbers[place] for place in one) for one in plain_closure(allowed, len(numbers), begun)]


def plain_row(deal, numbers, done):
    """The first row behind done that ends a choice, by trying all, or None."""
    allowed = set(allowed_within(deal, numbers))
    left = [number for number in numbers if number not in done]
    for row in itertools.permutations(left):
        if all(tuple(sorted((*done, *row[:k]))) in allowed for k in range(len(row) + 1)):
            return row
    return None


def choices_with(deal, done=()):
    """The numbers of all choices that hold done, in order."""
    return [numbers for numbers in all_sets(len(deal)) if set(done) <= set(numbers)]


def brought(deal, numbers):
    """What a choice brings."""
    return sum(plain_sums(deal.swap, numbers), Fraction(0))


def betters(one, other):
    """Whether nets are nowhere less and somewhere greater."""
    return all(left >= right for left, right in zip(one, other)) and any(left > right for left, right in zip(one, other))


def ranked(deal, told, by_number):
    """These choices, better ones ahead."""
    if by_number:
        return sorted(told, key=lambda numbers: (-len(numbers), -brought(deal, numbers), told.index(numbers)))
    return sorted(told, key=lambda numbers: (-brought(deal, numbers), len(numbers), told.index(numbers)))


def drawn_out(deal, done):
    """Who is drawn out first at done, and by how much, or None."""
    told = [(name, amount) for name, side, amount in plain_objections(deal, done) if side == "drawn"]
    return told[0] if told else None


def plain_best(deal, done, told, by_number):
    """The parts of a Best among these choices."""
    order = ranked(deal, told, by_number)
    for place, numbers in enumerate(order):
        row = plain_row(deal, numbers, done)
        if row is not None:
            better = [other for other in told if other in order[:place]]
            return numbers, row, tuple(StuckChoice(other, done, plain_sets(deal, other, done)) for other in better)
    return None


def plain_front(deal, done):
    """The parts of a ChoiceFront."""
    told = choices_with(deal, done)
    rows = {numbers: plain_row(deal, numbers, done) for numbers in told}
    nets = {numbers: plain_sums(deal.swap, numbers) for numbers in told}
    points = [
        numbers for numbers in told if rows[numbers] is not None
        and not any(rows[other] is not None and betters(nets[other], nets[numbers]) for other in told)
    ]
    others = [
        numbers for numbers in told if numbers not in points
        and not any(betters(nets[point], nets[numbers]) for point in points)
    ]
    return (
        tuple((numbers, rows[numbers]) for numbers in points),
        tuple(StuckChoice(other, done, plain_sets(deal, other, done)) for other in others),
    )


def right_ended(deal, numbers, done, row):
    """Whether a value is a row behind done that ends a choice."""
    if not is_set(len(deal), numbers) or not is_set(len(deal), done) or not set(done) <= set(numbers):
        return False
    if not isinstance(row, tuple) or not all(type(number) is int for number in row):
        return False
    if sorted(row) != [number for number in numbers if number not in done]:
        return False
    allowed = set(allowed_within(deal, numbers))
    return all(tuple(sorted((*done, *row[:k]))) in allowed for k in range(len(row) + 1))


def right_stuck(deal, parts):
    """Whether these are the parts of a right StuckChoice."""
    numbers, done, sets = parts
    if not is_set(len(deal), numbers) or not is_set(len(deal), done) or not set(done) <= set(numbers):
        return False
    if not isinstance(sets, tuple) or not all(is_set(len(deal), one) for one in sets) or len(set(sets)) < len(sets):
        return False
    allowed = allowed_within(deal, numbers)
    if not all(set(done) <= set(one) <= set(numbers) and one in allowed and one != numbers for one in sets):
        return False
    if done not in sets and done in allowed:
        return False
    return all(
        other in sets for one in sets for other in allowed
        if set(one) < set(other) and len(other) == len(one) + 1
    )


def all_stuck(deal, others):
    """Whether a value is a tuple of right StuckChoices."""
    return isinstance(others, tuple) and all(type(one) is StuckChoice and right_stuck(deal, one.parts) for one in others)


def right_best(deal, done, told, by_number, parts):
    """Whether these are the parts of a right Best among these choices."""
    numbers, row, others = parts
    if not right_ended(deal, numbers, done, row) or numbers not in told or not all_stuck(deal, others):
        return False
    order = ranked(deal, told, by_number)
    stuck = [one.numbers for one in others if one.done == done]
    return all(better in stuck for better in order[:order.index(numbers)])


def right_front(deal, done, parts):
    """Whether these are the parts of a right ChoiceFront."""
    points, others = parts
    if pairs_in(points) is None or not all(right_ended(deal, numbers, done, row) for numbers, row in points):
        return False
    chosen = [numbers for numbers, _ in points]
    nets = {numbers: plain_sums(deal.swap, numbers) for numbers in all_sets(len(deal))}
    if len(set(chosen)) < len(chosen) or any(betters(nets[one], nets[other]) for one in chosen for other in chosen):
        return False
    if not all_stuck(deal, others):
        return False
    stuck = [one.numbers for one in others if one.done == done]
    return all(
        numbers in chosen or numbers in stuck or any(betters(nets[point], nets[numbers]) for point in chosen)
        for numbers in choices_with(deal, done)
    )


def right_none(deal, parts):
    """Whether these are the parts of a right NoChoice."""
    done, name, amount = parts
    if not is_set(len(deal), done):
        return False
    first = drawn_out(deal, done)
    return first is not None and is_same(name, first[0]) and is_same(amount, Ratio(*first[1].as_integer_ratio()))


def done_deals(seed, times, hands=4):
    """Pairs of a deal and a done set of it."""
    rnd = random.Random(seed)
    return [(deal, rnd.choice([(), (), rnd.choice(all_sets(len(deal)))])) for deal in random_deals(seed + 1, times, hands)]
