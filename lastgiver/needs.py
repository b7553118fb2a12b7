"""Deals seen from dials: what bars a done set whatever the dials tell, and which number it needs of each.

Sets are told by cells of what is left behind a first one: the masks of the places of its numbers there.
"""

from heapq import heappop, heappush
from math import lcm

from lastgiver.cells import cells_in, sets_in, sums_among
from lastgiver.fields import FEW_STEPS, Field
from lastgiver.ratios import Ratio


class Seen:
    """A deal seen from some dials, none of whose bounds is on two of them, from a done set on."""

    def __init__(self, deal, dials, done):
        self.done = tuple(done)
        self.numbers = tuple([number for number in range(len(deal.swap.hands)) if number not in done])
        self.sizes = [1] * len(self.numbers)
        bars = [_leaning_slack(pair, done, self.numbers) for pair in deal.leanings.pairs]
        # What a dial needs is at least 0; the parts are those of 1 in which it is told.
        asked = [[(0, [0] * len(self.numbers), 1, 1)] for dial in dials]
        for name, side, bound, first, changes, scale in _bounds_seen(deal, done, self.numbers):
            which, weight = _on_dial(dials, name, side)
            if which is not None and weight.sign > 0:
                asked[which].append((-first, [-change for change in changes], scale * weight.top, weight.bottom))
            elif which is not None or bound is not None:
                bars.append((first if which is not None else first + bound, changes))
        self.bars = bars
        self.parts = [_common_parts(told) for told in asked]
        self.asks = [_in_parts(told, parts) for told, parts in zip(asked, self.parts)]

    def field(self):
        """The Field of the cells that are allowed at some numbers."""
        return Field(self.bars, self.sizes)

    def field_at(self, numbers):
        """The Field of the cells that are allowed at these numbers of the dials."""
        return self._field_within(numbers, 0)

    def field_below(self, numbers):
        """The Field of the cells that are allowed at some numbers, each below that of its dial; None is none."""
        return self._field_within(numbers, 1)

    def needs_in(self, bits, which):
        """A dict: for each of the cells, ascending, which number it needs of a dial, in parts of 1."""
        cells = cells_in(bits)
        needs = [0] * len(cells)
        half = len(self.numbers) // 2
        low_part = (1 << half) - 1
        for first, changes in self.asks[which]:
            low, high = _tables_of(first, changes)
            needs = [max(need, low[cell & low_part] + high[cell >> half]) for need, cell in zip(needs, cells)]
        return dict(zip(cells, needs))

    def least_need(self):
        """The least number of the first dial at which all is reached, in parts of 1; None if it never is."""
        near = self._near_need()
        if near is not None:
            return near
        come = self.field().reached_cells()
        full = (1 << len(self.numbers)) - 1
        return least_needs(self.needs_in(come, 0), len(self.numbers))[full] if come >> full & 1 else None

    def number_of(self, need, which):
        """The Ratio of a number that is told in parts of 1."""
        return Ratio(need, self.parts[which])

    def sets_of(self, bits):
        """The list of the done sets of some cells, in their order."""
        inner = sets_in(bits, len(self.numbers))
        if len(self.done) == 0:
            return inner
        return [tuple(sorted([*self.done, *[self.numbers[place] for place in places]])) for places in inner]

    def states_along(self, field, row):
        """The states of a Field at all moments of a row of what is left."""
        states = [field.start]
        for number in row:
            states.append(states[-1] + field.steps[self.numbers.index(number)])
        return states

    def _near_need(self):
        """The same as least_need, by cells in the order of what they need; None if this takes many steps, too.

        So no cells are gone over but those that are reached at lesser numbers, and some at the number itself.
        """
        field = self.field()
        tables = [_tables_of(first, changes) for first, changes in self.asks[0]]
        half = len(self.numbers) // 2
        low_part = (1 << half) - 1
        # One hand-over more asks more of its giver's trust and its taker's pledge alone.
        further_asked = [
            [table for table, ask in zip(tables, self.asks[0]) if ask[1][place] > 0]
            for place in range(len(self.numbers))
        ]
        first_need = max([low[0] for low, high in tables])
        queue = []
        if field.is_free(field.start):
            heappush(queue, (first_need, len(self.numbers), 0, field.start))
        met = {0: True}
        tried = 0
        steps = list(field.steps)
        while len(queue) > 0 and tried < FEW_STEPS:
            need, many, cell, state = heappop(queue)
            if many == 0:
                return need
            for place, step in enumerate(steps):
                further = cell | (1 << place)
                if further not in met and field.is_free(state + step):
                    met[further] = True
                    told = [low[further & low_part] + high[further >> half] for low, high in further_asked[place]]
                    heappush(queue, (max([need, *told]), many - 1, further, state + step))
            tried = tried + len(self.numbers)
        return None

    def _field_within(self, numbers, less):
        """The Field of the cells that need of each dial its number at most, or in whole parts so much less."""
        slacks = list(self.bars)
        for number, asks, parts in zip(numbers, self.asks, self.parts):
            if number is not None:
                most = Ratio.of(number).top * parts - less
                by = Ratio.of(number).bottom
                slacks = slacks + [(most - first * by, [-by * change for change in changes]) for first, changes in asks]
        return Field(slacks, self.sizes)


def least_needs(needs, many):
    """For each cell to which steps over these lead from cell 0: the least that all cells on a way there need.

    needs is a dict of the cells, ascending, of so many hand-overs.
    """
    steps = [1 << place for place in range(many)]
    found = {}
    for cell, need in needs.items():
        ahead = [found[cell - step] for step in steps if cell & step and cell - step in found]
        if cell == 0:
            found[cell] = need
        elif len(ahead) > 0:
            found[cell] = max(need, min(ahead))
    return found


def _bounds_seen(deal, done, left):
    """For each bound, as objections are ordered: the stranger's name, the side, the bound, or None if it is wide.

    Behind these: how far the bound 0 is from being passed at the done set, how each hand-over left changes
    this, and the scale in which all these are told.
    """
    found = []
    for name, track in zip(deal.swap.strangers, deal.tracks):
        total = track.total(done)
        net = sum(track.effects)
        changes = [track.effects[number] for number in left]
        back = [-change for change in changes]
        trust = None if track.low is None else -track.low
        pledge = None if track.high is None else track.high - net
        found.append((name, "drawn", trust, total, changes, track.scale))
        found.append((name, "leaves", pledge, net - total, back, track.scale))
    return found


def _on_dial(dials, name, side):
    """Which dial a bound is on, and its weight there; None for both if it is off all."""
    for which, dial in enumerate(dials):
        weights = dict(dial.trust_weights if side == "drawn" else dial.pledge_weights)
        if name in weights:
            return which, weights[name]
    return None, None


def _leaning_slack(pair, done, left):
    """The slack of a leaning, from a done set on."""
    one, other = pair
    changes = [1 if number == one else -1 if number == other else 0 for number in left]
    first = (1 if one in done else 0) - (1 if other in done else 0)
    return first, changes


def _common_parts(asked):
    """Parts of 1 in which all that is asked of a dial can be told in integers."""
    parts = 1
    for told in asked:
        parts = lcm(parts, told[2])
    return parts


def _in_parts(asked, parts):
    """What is asked of a dial, in such parts: what of cell 0, and what one more of each changes."""
    found = []
    for first, changes, scale, times in asked:
        by = parts // scale * times
        found.append((first * by, [change * by for change in changes]))
    return found


def _tables_of(first, changes):
    """Two lists, of the sums for the lower half of a cell and for the upper one, which add up to that of the cell."""
    half = len(changes) // 2
    return sums_among(first, changes[:half]), sums_among(0, changes[half:])
