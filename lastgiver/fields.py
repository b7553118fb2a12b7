"""Which cells are free, to which of them steps of one more lead, and in how many ways they lead on.

What bars a cell is told by slacks, pairs: what a slack is at cell 0, and by how much one more of each
kind changes it. A cell is free if no slack is below 0 there. All slacks of a cell stand in one
integer, its state, each in bits of its own, the top one of which is 1 while the slack is from 0 on.
"""

from lastgiver.cells import bits_of, cells_in, strides_of

# So many single steps take about as long as a look at all cells together.
FEW_STEPS = 1024


class Field:
    """The cells of kinds of these sizes, some of which are barred by slacks."""

    def __init__(self, slacks, sizes):
        self.sizes = tuple(sizes)
        self.start = 0
        self.guard = 0
        self._width = 0
        steps = []
        for size in list(self.sizes):
            # How many are left is a slack, too: it bars a step too far.
            steps.append(-(1 << self._place_for(size, size + 1)))
        for first, changes in slacks:
            if _can_fall(first, changes, self.sizes):
                place = self._place_for(first, _furthest(first, changes, self.sizes))
                steps = [step + (change << place) for step, change in zip(steps, changes)]
        self.steps = steps

    def is_free(self, state):
        """Whether a cell with this state is free; it has no more than one step too many."""
        return state & self.guard == self.guard

    def free_cells(self):
        """The bits of all free cells."""
        states = [self.start]
        for size, step in zip(self.sizes, self.steps):
            states = [state + step * count for count in range(size + 1) for state in states]
        return int("".join(["1" if state & self.guard == self.guard else "0" for state in states[::-1]]), 2)

    def reached_cells(self):
        """The bits of the free cells to which steps over free cells lead from cell 0."""
        few = self._few_reached()
        return _spread(self.free_cells(), self.sizes) if few is None else few

    def _few_reached(self):
        """The same, looking at nothing but them and what is next to them; None if they are many."""
        guard = self.guard
        moves = list(zip(strides_of(self.sizes), self.steps))
        layer = {0: self.start} if self.start & guard == guard else {}
        bits = 0
        tried = 0
        while layer:
            tried = tried + len(layer) * len(moves)
            if tried > FEW_STEPS:
                return None
            bits = bits | bits_of(layer)
            layer = {
                cell + stride: state + step
                for cell, state in layer.items() for stride, step in moves
                if (state + step) & guard == guard
            }
        return bits

    def _place_for(self, first, reach):
        """The place of new bits for a slack that begins so and is never further from 0 than reach."""
        place = self._width
        top = 1 << reach.bit_length()
        self.start = self.start + ((first + top) << place)
        self.guard = self.guard | (top << place)
        self._width = place + reach.bit_length() + 1
        return place


def bound_slacks(tracks, numbers):
    """The slacks that the bounds of all strangers leave; each kind counts as hand-over numbers[k]."""
    slacks = []
    for track in tracks:
        effects = [track.effects[number] for number in numbers]
        if track.low is not None:
            slacks.append((-track.low, effects))
        if track.high is not None:
            slacks.append((track.high, [-effect for effect in effects]))
    return slacks


def leaning_slacks(pairs, many):
    """The slacks of leanings among so many hand-overs."""
    slacks = []
    for one, other in pairs:
        changes = [0 for number in range(many)]
        changes[one] = 1
        changes[other] = -1
        slacks.append((0, changes))
    return slacks


def leading_cells(bits, sizes):
    """The bits of those of the cells from which steps over them lead on to the last cell."""
    steps = list(zip(strides_of(sizes), _room_bits(sizes)))
    found = bits & (1 << (strides_of(sizes)[-1] - 1))
    before = 0
    while found != before:
        before = found
        for stride, room in steps:
            found = found | ((found >> stride) & room & bits)
    return found


def ways_on(bits, sizes):
    """A dict: for each of the cells from which steps over them lead on to the last one, in how many ways."""
    steps = list(zip(strides_of(sizes), sizes))
    last = strides_of(sizes)[-1] - 1
    ways = {}
    for cell in cells_in(leading_cells(bits, sizes))[::-1]:
        on = [ways.get(cell + stride, 0) for stride, size in steps if cell // stride % (size + 1) < size]
        ways[cell] = 1 if cell == last else sum(on)
    return ways


def first_way(bits, numbers):
    """The first row, as tuples are ordered, from cell 0 to the last one, over cells that lead on to it.

    numbers are those of each kind, ascending; cell 0 leads on.
    """
    sizes = [len(like) for like in numbers]
    strides = strides_of(sizes)
    counts = [0 for size in sizes]
    row = []
    cell = 0
    while cell < strides[-1] - 1:
        number, kind = min([
            (numbers[k][counts[k]], k) for k in range(len(sizes))
            if counts[k] < sizes[k] and bits >> (cell + strides[k]) & 1
        ])
        row.append(number)
        counts[kind] = counts[kind] + 1
        cell = cell + strides[kind]
    return tuple(row)


def _spread(bits, sizes):
    """The bits of those of the cells to which steps over them lead from cell 0."""
    steps = list(zip(strides_of(sizes), _room_bits(sizes)))
    found = bits & 1
    before = 0
    while found != before:
        before = found
        for stride, room in steps:
            found = found | (((found & room) << stride) & bits)
    return found


def _room_bits(sizes):
    """For each kind the bits of the cells that have not yet all of it."""
    strides = strides_of(sizes)
    every = (1 << strides[-1]) - 1
    rooms = []
    for stride, size in zip(strides, sizes):
        # Among each stretch of stride * (size + 1) cells all but the last stride of them.
        repeated = every // ((1 << (stride * (size + 1))) - 1)
        rooms.append(((1 << (stride * size)) - 1) * repeated)
    return rooms


def _can_fall(first, changes, sizes):
    """Whether a slack is below 0 at some cell."""
    return first + sum([min(0, change) * size for change, size in zip(changes, sizes)]) < 0


def _furthest(first, changes, sizes):
    """How far from 0 a slack can be, one step too far in each kind being let."""
    return abs(first) + sum([abs(change) * (size + 1) for change, size in zip(changes, sizes)])
