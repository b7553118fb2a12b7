"""Books: a swap under way."""

from lastgiver.bounds import Bounds, check_bound
from lastgiver.cells import mask_of, numbers_in
from lastgiver.checks import check_hand, check_none_twice
from lastgiver.deals import Deal, Objection, check_deal
from lastgiver.deeds import Break, Do, Leave, SetPledge, SetTrust
from lastgiver.errors import Alone, BadBook, Broken, Done, DrawnOut, Leans, Left, NoDeed, Objected
from lastgiver.leanings import pairs_among
from lastgiver.sums import sums
from lastgiver.swaps import Swap, check_stranger


class Book:
    """A deal, and the deeds that have come since nothing was done."""

    def __init__(self, deal):
        check_deal(deal)
        self.deal = deal
        self.story = ()
        self.done = ()
        self.gone = ()
        self.lost = ()
        self.bounds = deal.bounds
        # What done, gone, lost and bounds were ahead of each deed; and the deeds that were taken back.
        self._past = ()
        self._undone = ()

    @property
    def sums_now(self):
        """The line of the sums at all that is done."""
        return sums(self.deal.swap, self._numbers_done())

    @property
    def hopes(self):
        """The line of what all have so far and would have of all open hand-overs."""
        return sums(self.deal.swap, [*self._numbers_done(), *self.waiting])

    @property
    def waiting(self):
        """The numbers of the open hand-overs, ascending."""
        return _open_in(self.deal, self._numbers_done(), self.lost, self.gone)

    @property
    def objecting(self):
        """The tuple of the Objections of those who object now."""
        return self._objections(self.sums_now, self.hopes)

    def __len__(self):
        return len(self.story)

    def __iter__(self):
        return iter(self.story)

    def __eq__(self, other):
        return isinstance(other, Book) and self.deal == other.deal and self.story == other.story

    def do(self, *numbers):
        """One hand-over or more are done, at one moment."""
        if len(numbers) == 0:
            raise NoDeed()
        for number in numbers:
            check_hand(len(self.deal.swap.hands), number)
        check_none_twice(numbers)
        done = self._numbers_done()
        for number in numbers:
            self._check_open(number, [*done, *numbers], done)
        self._check_nobody_objects(self.sums_now)
        self._check_nobody_objects(sums(self.deal.swap, [*done, *numbers]))
        deed = Do(numbers)
        self._add(deed)
        self.done = (*self.done, deed.numbers)

    def leave(self, name):
        """A stranger leaves, and hands over and takes no more."""
        check_stranger(self.deal.swap, name)
        self._check_stayed(name)
        self._add(Leave(name))
        self.gone = (*self.gone, name)

    def breaks(self, number):
        """A thing that was not handed over is lost."""
        check_hand(len(self.deal.swap.hands), number)
        self._check_whole(number, self._numbers_done())
        self._add(Break(number))
        self.lost = tuple(sorted([*self.lost, number]))

    def set_trust(self, name, trust):
        """A stranger who has stayed has another trust from now on."""
        check_stranger(self.deal.swap, name)
        check_bound(trust, "trust")
        self._check_stayed(name)
        place = self.deal.swap.strangers.index(name)
        if trust is not None:
            amount = -(self.sums_now[place] + trust)
            if amount.sign > 0:
                raise DrawnOut(name, amount)
        self._add(SetTrust(name, trust))
        self.bounds = self.bounds.with_trust(place, trust)

    def set_pledge(self, name, pledge):
        """A stranger who has stayed has another pledge from now on."""
        check_stranger(self.deal.swap, name)
        check_bound(pledge, "pledge")
        self._check_stayed(name)
        self._add(SetPledge(name, pledge))
        self.bounds = self.bounds.with_pledge(self.deal.swap.strangers.index(name), pledge)

    def tell(self, deed):
        """A deed comes."""
        if isinstance(deed, Do):
            numbers = deed.numbers
            self.do(*numbers)
        elif isinstance(deed, Leave):
            self.leave(deed.name)
        elif isinstance(deed, Break):
            self.breaks(deed.number)
        elif isinstance(deed, SetTrust):
            self.set_trust(deed.name, deed.trust)
        elif isinstance(deed, SetPledge):
            self.set_pledge(deed.name, deed.pledge)
        else:
            raise BadBook("deed")

    def undo(self):
        """Take the latest deed back."""
        if len(self.story) == 0:
            raise NoDeed()
        self._undone = (*self._undone, self.story[-1])
        self.story = self.story[:-1]
        self.done, self.gone, self.lost, self.bounds = self._past[-1]
        self._past = self._past[:-1]

    def redo(self):
        """Do the deed anew that was taken back last and not done anew."""
        if len(self._undone) == 0:
            raise NoDeed()
        undone = self._undone[:-1]
        self.tell(self._undone[-1])
        self._undone = undone

    def left(self):
        """What is left, a Deal."""
        stayed = [place for place, name in enumerate(self.deal.swap.strangers) if name not in self.gone]
        if len(stayed) < 2:
            raise Alone()
        numbers = self.waiting
        line = self.sums_now
        swap = Swap(
            [self.deal.swap.strangers[place] for place in stayed],
            [self.deal.swap.hands[number] for number in numbers],
        )
        trusts = [_raised(self.bounds.trusts[place], line[place]) for place in stayed]
        pledges = [self.bounds.pledges[place] for place in stayed]
        return Deal(swap, Bounds(trusts, pledges), pairs_among(self.deal.leanings, numbers))

    def twin(self):
        """A Book that is in all as this one."""
        book = Book(self.deal)
        book.story = self.story
        book.done, book.gone, book.lost, book.bounds = self.done, self.gone, self.lost, self.bounds
        book._past = self._past
        book._undone = self._undone
        return book

    def tried(self, work):
        """What a function returns for this book, which is behind it as it was ahead of it."""
        story, past, undone = self.story, self._past, self._undone
        done, gone, lost, bounds = self.done, self.gone, self.lost, self.bounds
        try:
            return work(self)
        finally:
            self.story, self._past, self._undone = story, past, undone
            self.done, self.gone, self.lost, self.bounds = done, gone, lost, bounds

    def _numbers_done(self):
        """The numbers of all hand-overs that are done."""
        return [number for numbers in self.done for number in numbers]

    def _add(self, deed):
        """Put a deed behind the others; nothing that was taken back can be done anew."""
        self._past = (*self._past, (self.done, self.gone, self.lost, self.bounds))
        self.story = (*self.story, deed)
        self._undone = ()

    def _check_stayed(self, name):
        """Raise Left for a stranger who has left."""
        if name in self.gone:
            raise Left(name)

    def _check_whole(self, number, done):
        """Raise the error for a hand-over that is done or broken."""
        if number in done:
            raise Done(number)
        if number in self.lost:
            raise Broken(number)

    def _check_open(self, number, known, done):
        """Raise the error for a hand-over that is not open, if those known are done or to be done with it."""
        self._check_whole(number, done)
        hand = self.deal.swap.hands[number]
        self._check_stayed(hand.giver)
        self._check_stayed(hand.taker)
        for other in numbers_in(self.deal.leanings.wanted([number]), len(self.deal.swap.hands)):
            if other not in known:
                raise Leans(number, other)

    def _check_nobody_objects(self, line):
        """Raise Objected with the first who objects at these sums; a deed of kind do leaves the hopes as they are."""
        objected = self._objections(line, self.hopes)
        if len(objected) > 0:
            raise Objected(objected[0].name, objected[0].amount)

    def _objections(self, line, hopes):
        """The tuple of the Objections of those who have stayed, at these sums and hopes."""
        found = []
        for name, total, hope, trust, pledge in zip(
            self.deal.swap.strangers, line, hopes, self.bounds.trusts, self.bounds.pledges,
        ):
            if name not in self.gone and trust is not None and (total + trust).sign < 0:
                found.append(Objection(name, "drawn", -(total + trust)))
            if name not in self.gone and pledge is not None and (total - hope - pledge).sign > 0:
                found.append(Objection(name, "leaves", total - hope - pledge))
        return tuple(found)


def _open_in(deal, done, lost, gone):
    """The numbers of the open hand-overs, ascending, if these are done, these broken, and these strangers have left."""
    behind = mask_of(done)
    found = [
        number for number, hand in enumerate(deal.swap.hands)
        if not behind >> number & 1 and number not in lost and hand.giver not in gone and hand.taker not in gone
    ]
    while True:
        # What leans on one that is neither done nor open is not open either.
        known = behind | mask_of(found)
        kept = [number for number in found if deal.leanings.wanted([number]) | known == known]
        if len(kept) == len(found):
            return tuple(found)
        found = kept


def _raised(trust, total):
    """A trust and a sum together; a wide trust stays wide."""
    return None if trust is None else trust + total
