"""Which choices can be ended from a done set, and which of them are best."""

from math import lcm

from lastgiver.checks import done_told
from lastgiver.choices import Choice, check_few_choices, choices
from lastgiver.deals import check_deal
from lastgiver.errors import BadChoice, Beyond, TooMany
from lastgiver.fields import first_way, leading_cells
from lastgiver.needs import Seen
from lastgiver.papers import Denial, Paper, fixed

MOST_LEFT = 12


class Ended(Paper):
    """A choice, a done set, and a row behind it that ends the choice."""

    def __init__(self, numbers, done, row):
        self.word = "ended"
        self.parts = fixed((numbers, done, row))
        self.numbers = self.parts[0]
        self.done = self.parts[1]
        self.row = self.parts[2]


class StuckChoice(Denial):
    """A choice, a done set, and the sets beyond which no single move leads from it."""

    def __init__(self, numbers, done, sets):
        self.word = "stuckchoice"
        self.parts = fixed((numbers, done, sets))
        self.numbers = self.parts[0]
        self.done = self.parts[1]
        self.sets = self.parts[2]


class Best(Paper):
    """The best choice, a row that ends it, and a StuckChoice for each better one."""

    def __init__(self, numbers, row, others):
        self.word = "best"
        self.parts = fixed((numbers, row, others))
        self.numbers = self.parts[0]
        self.row = self.parts[1]
        self.others = self.parts[2]


class ChoiceFront(Paper):
    """The choices of which none is better for all, with rows that end them, and StuckChoices for what would be."""

    def __init__(self, points, others):
        self.word = "choicefront"
        self.parts = fixed((points, others))
        self.points = self.parts[0]
        self.others = self.parts[1]


class NoChoice(Denial):
    """A done set at which somebody is drawn out, and by how much."""

    def __init__(self, done, name, amount):
        self.word = "nochoice"
        self.parts = fixed((done, name, amount))
        self.done = self.parts[0]
        self.name = self.parts[1]
        self.amount = self.parts[2]


def ended(choice, done=()):
    """An Ended with the first row behind done, or a StuckChoice of all sets to which single moves lead from it."""
    if not isinstance(choice, Choice):
        raise BadChoice("choice")
    told = done_told(len(choice.deal.swap.hands), done, "done")
    for number in told:
        if number not in choice.numbers:
            raise Beyond(number)
    if len(choice.numbers) - len(told) > MOST_LEFT:
        raise TooMany("hands", MOST_LEFT)
    return _ended_from(choice, told)


def doable(deal, done=()):
    """Yield an Ended for each choice that can be ended from done."""
    told = _done_of_few(deal, done)
    for choice in choices_holding(deal, told):
        found = _ended_from(choice, told)
        if found:
            yield found


def most_chosen(deal, done=()):
    """The Best choice by the number of its hand-overs, or a NoChoice."""
    told = _done_of_few(deal, done)
    drawn = drawn_at(deal, told)
    if drawn is not None:
        return drawn
    ordered = choices_holding(deal, told)
    return _best_of(ordered, ranks_by_number(ordered), told)


def brings_most(deal, done=()):
    """The Best choice by what it brings, or a NoChoice."""
    told = _done_of_few(deal, done)
    drawn = drawn_at(deal, told)
    if drawn is not None:
        return drawn
    ordered = choices_holding(deal, told)
    return _best_of(ordered, ranks_by_gain(ordered), told)


def gainful_most(deal):
    """The Best gainful choice by what it brings, from the empty set."""
    ordered = gainful_choices(deal, _done_of_few(deal, ()))
    return _best_of(ordered, ranks_by_gain(ordered), ())


def choice_front(deal, done=()):
    """A ChoiceFront with the first rows, or a NoChoice."""
    told = _done_of_few(deal, done)
    drawn = drawn_at(deal, told)
    if drawn is not None:
        return drawn
    tried = [(_ended_from(choice, told), nets_of(choice)) for choice in choices_holding(deal, told)]
    doing = [nets for paper, nets in tried if paper]
    # What some doable choice is better than, some point is better than, too.
    kept = [paper for paper, nets in tried if not any([is_better(other, nets) for other in doing])]
    points = [(paper.numbers, paper.row) for paper in kept if paper]
    return ChoiceFront(points, [paper for paper in kept if not paper])


def choices_holding(deal, done):
    """The list of the choices of a deal that hold a done set, in order."""
    return [choice for choice in choices(deal) if all([number in choice.numbers for number in done])]


def gainful_choices(deal, done):
    """The list of the gainful choices that hold a done set, in order."""
    return [choice for choice in choices_holding(deal, done) if choice.is_gainful]


def drawn_at(deal, done):
    """The NoChoice of a done set at which somebody is drawn out, or None."""
    for objection in deal.objections(done):
        if objection.side == "drawn":
            return NoChoice(done, objection.name, objection.amount)
    return None


def ranks_by_number(ordered):
    """For each choice a tuple, less than that of each worse one: more hand-overs, bringing more, standing ahead."""
    return [
        (-len(choice.numbers), -brought, place)
        for place, (choice, brought) in enumerate(zip(ordered, _brought_by(ordered)))
    ]


def ranks_by_gain(ordered):
    """For each choice a tuple, less than that of each worse one: bringing more, fewer hand-overs, standing ahead."""
    return [
        (-brought, len(choice.numbers), place)
        for place, (choice, brought) in enumerate(zip(ordered, _brought_by(ordered)))
    ]


def nets_of(choice):
    """What the choice brings each stranger, in integers that are alike for all choices of its deal."""
    return [track.total(choice.numbers) for track in choice.deal.tracks]


def is_better(nets, others):
    """Whether nets are nowhere less than others, and somewhere greater."""
    pairs = list(zip(nets, others))
    return all([net >= other for net, other in pairs]) and any([net > other for net, other in pairs])


def _brought_by(ordered):
    """What each of the choices of one deal brings, in integers of one scale."""
    brought = [choice.brings for choice in ordered]
    scale = 1
    for ratio in brought:
        scale = lcm(scale, ratio.bottom)
    return [ratio.top * (scale // ratio.bottom) for ratio in brought]


def _done_of_few(deal, done):
    """The done set of a deal whose choices can all be tried."""
    check_deal(deal)
    told = done_told(len(deal.swap.hands), done, "done")
    check_few_choices(deal)
    return told


def _ended_from(choice, done):
    """The Ended of a choice that has a done set, or its StuckChoice."""
    seen = Seen(choice.inner, (), [choice.numbers.index(number) for number in done])
    come = seen.field().reached_cells()
    alive = leading_cells(come, seen.sizes)
    if alive == 0:
        return StuckChoice(choice.numbers, done, [choice.numbers_of(inner) for inner in seen.sets_of(come)])
    row = first_way(alive, [(number,) for number in seen.numbers])
    return Ended(choice.numbers, done, choice.numbers_of(row))


def _best_of(ordered, ranks, done):
    """The Best of some choices, one of which can be ended from done."""
    better = {}
    for place in [rank[-1] for rank in sorted(ranks)]:
        found = _ended_from(ordered[place], done)
        if found:
            return Best(found.numbers, found.row, [better[ahead] for ahead in sorted(list(better))])
        better[place] = found
    return None
