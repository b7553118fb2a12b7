"""What opens and what closes, fine pieces, and sources."""

from math import lcm

from lastgiver.deals import check_deal, check_ends, check_no_leaning
from lastgiver.papers import Denial, Paper, fixed
from lastgiver.ratios import Ratio, greatest_of, least_of
from lastgiver.swaps import check_swap
from lastgiver.turned_deals import exchanged
from lastgiver.weeks import check_no_loser


class Fine(Paper):
    """First pieces, last pieces, and a number of pieces that does."""

    def __init__(self, opening, closing, pieces):
        self.word = "fine"
        self.parts = fixed((opening, closing, pieces))
        self.opening = self.parts[0]
        self.closing = self.parts[1]
        self.pieces = self.parts[2]


class Unopened(Denial):
    """What opens, and against each other hand-over who cannot give, or take, a first piece of it."""

    def __init__(self, opened, against):
        self.word = "unopened"
        self.parts = fixed((opened, against))
        self.opened = self.parts[0]
        self.against = self.parts[1]


class Unclosed(Denial):
    """What closes, and against each other hand-over who cannot give, or take, a last piece of it."""

    def __init__(self, closed, against):
        self.word = "unclosed"
        self.parts = fixed((closed, against))
        self.closed = self.parts[0]
        self.against = self.parts[1]


def openings(deal):
    """The numbers that open, as they are found."""
    check_deal(deal)
    check_no_leaning(deal)
    return opened_in(deal)


def closings(deal):
    """The numbers that close, as they are found."""
    check_deal(deal)
    check_no_leaning(deal)
    return opened_in(exchanged(deal))


def fine(deal):
    """A Fine, an Unopened or an Unclosed."""
    check_fine(deal)
    turned = exchanged(deal)
    opened = opened_in(deal)
    closed = opened_in(turned)
    if len(opened) < len(deal.swap.hands):
        return Unopened(opened, _against(deal, opened, "drawn", "leaves"))
    if len(closed) < len(deal.swap.hands):
        return Unclosed(closed, _against(turned, closed, "leaves", "drawn"))
    opening = _small_amounts(deal, opened)
    closing = _small_amounts(turned, closed)[::-1]
    return Fine(opening, closing, _pieces_for(deal, opening, closing))


def sources(swap):
    """The sources, tuples of names, by their first ones."""
    check_swap(swap)
    check_no_loser(swap)
    fed = _fed_by(swap)
    found = []
    for name in swap.strangers:
        group = [other for other in swap.strangers if other == name or (other in fed[name] and name in fed[other])]
        if group[0] == name and _is_source(swap, fed, group):
            found.append(tuple(group))
    return tuple(found)


def check_fine(deal):
    """Raise the errors of a deal that has no beginning or no end."""
    check_deal(deal)
    check_no_leaning(deal)
    check_ends(deal)


def opened_in(deal):
    """The numbers that open, each time the least one left that does by those ahead."""
    opened = ()
    left = list(range(len(deal.swap.hands)))
    while True:
        opening = [number for number in left if can_give(deal, opened, number) and can_take(deal, opened, number)]
        if len(opening) == 0:
            return opened
        opened = (*opened, opening[0])
        left.remove(opening[0])


def can_give(deal, opened, number):
    """Whether a first piece costs nothing, or its giver trusts, or gets something by what opens."""
    hand = deal.swap.hands[number]
    trust = deal.bounds.trusts[deal.swap.strangers.index(hand.giver)]
    if hand.cost.sign == 0 or trust is None or trust.sign != 0:
        return True
    got = [deal.swap.hands[other].gain for other in opened if deal.swap.hands[other].taker == hand.giver]
    return any([gain.sign > 0 for gain in got])


def can_take(deal, opened, number):
    """Whether a first piece gains nothing, or its taker still would not leave, or gives something that opens."""
    hand = deal.swap.hands[number]
    place = deal.swap.strangers.index(hand.taker)
    pledge = deal.bounds.pledges[place]
    if hand.gain.sign == 0 or pledge is None or (deal.swap.nets[place] + pledge).sign != 0:
        return True
    given = [deal.swap.hands[other].cost for other in opened if deal.swap.hands[other].giver == hand.taker]
    return any([cost.sign > 0 for cost in given])


def range_of(swap, name):
    """A stranger's greatest effect less its least, 0 without hand-overs."""
    effects = [hand.effect(name) for hand in swap.hands]
    return greatest_of(effects) - least_of(effects) if len(effects) > 0 else Ratio(0)


def sums_behind(swap, pairs, first):
    """The lines of sums: a first one, and that behind each pair of a number and an amount."""
    lines = [first]
    for number, amount in pairs:
        effects = [swap.hands[number].effect(name) * amount for name in swap.strangers]
        lines.append(tuple([total + effect for total, effect in zip(lines[-1], effects)]))
    return lines


def added_up(swap, pairs):
    """What all pairs of numbers and amounts add up to."""
    return sums_behind(swap, pairs, tuple([Ratio(0) for name in swap.strangers]))[-1]


def rooms_at(deal, line):
    """For each stranger how far a line is from its bounds, on the side where it is nearer; None if both are wide."""
    rooms = []
    for total, net, trust, pledge in zip(line, deal.swap.nets, deal.bounds.trusts, deal.bounds.pledges):
        told = [total + trust] if trust is not None else []
        told = told + ([net + pledge - total] if pledge is not None else [])
        rooms.append(least_of(told) if len(told) > 0 else None)
    return rooms


def _against(deal, opened, giving, taking):
    """For each number that does not open a triple: the number, who is against it, and the side told for such."""
    found = []
    for number, hand in enumerate(deal.swap.hands):
        if number not in opened:
            gives = can_give(deal, opened, number)
            found.append((number, hand.taker, taking) if gives else (number, hand.giver, giving))
    return found


def _small_amounts(deal, opened):
    """Pairs of the numbers and an amount of each, so small that at most half of what is left to a bound is used."""
    pairs = []
    line = added_up(deal.swap, ())
    for number in opened:
        hand = deal.swap.hands[number]
        giver = deal.swap.strangers.index(hand.giver)
        taker = deal.swap.strangers.index(hand.taker)
        trust = deal.bounds.trusts[giver]
        pledge = deal.bounds.pledges[taker]
        asked = [Ratio(2)]
        if trust is not None and hand.cost.sign > 0:
            asked.append((hand.cost * 2).over(line[giver] + trust))
        if pledge is not None and hand.gain.sign > 0:
            asked.append((hand.gain * 2).over(deal.swap.nets[taker] + pledge - line[taker]))
        pairs.append((number, Ratio(1, _least_power(greatest_of(asked)))))
        line = sums_behind(deal.swap, pairs[-1:], line)[-1]
    return pairs


def _least_power(ratio):
    """The least power of 2 that is no less than a ratio from 1 on."""
    whole = -(-ratio.top // ratio.bottom)
    return 1 << (whole - 1).bit_length()


def _pieces_for(deal, opening, closing):
    """A number of pieces that goes with these amounts, so great that one piece of each is less than all rooms."""
    parts = 1
    for number, amount in [*opening, *closing]:
        parts = lcm(parts, amount.bottom)
    last = added_up(deal.swap, closing)
    ahead = tuple([net - total for net, total in zip(deal.swap.nets, last)])
    pieces = 1
    for line in (added_up(deal.swap, opening), ahead):
        for name, room in zip(deal.swap.strangers, rooms_at(deal, line)):
            asked = range_of(deal.swap, name) * len(deal.swap.strangers)
            if room is not None and asked.sign > 0:
                need = asked.over(room)
                pieces = max(pieces, -(-need.top // need.bottom))
    return -(-pieces // parts) * parts


def _fed_by(swap):
    """For each stranger, by names, all whom it feeds at once or by way of others."""
    names = swap.strangers
    fed = {name: [hand.taker for hand in swap.hands if hand.giver == name and hand.gain.sign > 0] for name in names}
    for between in names:
        further = fed[between]
        fed = {
            name: [other for other in names if other in told or (between in told and other in further)]
            for name, told in fed.items()
        }
    return fed


def _is_source(swap, fed, group):
    """Whether nobody outside feeds a group who feed each other, and they begin by what costs something."""
    for hand in swap.hands:
        if hand.taker in group and hand.gain.sign > 0 and (hand.giver not in group or hand.cost.sign == 0):
            return False
    return any([hand.giver in group and hand.cost.sign > 0 for hand in swap.hands])
