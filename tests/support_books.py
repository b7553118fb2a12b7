"""A plain book, told as the document tells it, and random deeds."""

from fractions import Fraction

from lastgiver.bounds import Bounds
from lastgiver.deals import Deal, Objection
from lastgiver.deeds import Break, Do, Leave, SetPledge, SetTrust
from lastgiver.errors import Broken, Done, DrawnOut, LastError, Leans, Left, Objected
from lastgiver.ratios import Ratio
from lastgiver.swaps import Swap

from support import as_fraction, plain_sums, random_bound


def ratio(fraction):
    """The Ratio of a Fraction."""
    return Ratio(*Fraction(fraction).as_integer_ratio())


class PlainBook:
    """A book that keeps nothing but its deeds, and works all out anew."""

    def __init__(self, deal, deeds=()):
        self.deal = deal
        self.deeds = list(deeds)

    def done(self):
        return [number for deed in self.deeds if type(deed) is Do for number in deed.numbers]

    def gone(self):
        return [deed.name for deed in self.deeds if type(deed) is Leave]

    def lost(self):
        return sorted(deed.number for deed in self.deeds if type(deed) is Break)

    def bounds(self):
        """Pairs of the trust and the pledge of each stranger."""
        told = [[trust, pledge] for trust, pledge in zip(self.deal.bounds.trusts, self.deal.bounds.pledges)]
        for deed in self.deeds:
            if type(deed) in (SetTrust, SetPledge):
                place = self.deal.swap.strangers.index(deed.name)
                told[place][type(deed) is SetPledge] = deed.trust if type(deed) is SetTrust else deed.pledge
        return [tuple(None if bound is None else as_fraction(bound) for bound in pair) for pair in told]

    def is_open(self, number):
        """Whether a hand-over is open."""
        hand = self.deal.swap.hands[number]
        if number in self.done() or number in self.lost() or {hand.giver, hand.taker} & set(self.gone()):
            return False
        return all(e in self.done() or self.is_open(e) for e, f in self.deal.leanings.pairs if f == number)

    def waiting(self):
        return tuple(number for number in range(len(self.deal)) if self.is_open(number))

    def sums(self):
        return plain_sums(self.deal.swap, self.done())

    def hopes(self):
        return plain_sums(self.deal.swap, [*self.done(), *self.waiting()])

    def objections(self, sums):
        """Triples of those who object at these sums, the hopes being those of now."""
        found = []
        for name, total, hope, (trust, pledge) in zip(self.deal.swap.strangers, sums, self.hopes(), self.bounds()):
            if name in self.gone():
                continue
            if trust is not None and total < -trust:
                found.append((name, "drawn", -trust - total))
            if pledge is not None and total > hope + pledge:
                found.append((name, "leaves", total - hope - pledge))
        return found

    def objecting(self):
        return tuple(Objection(name, side, ratio(amount)) for name, side, amount in self.objections(self.sums()))

    def refusal(self, deed):
        """The error that refuses a deed, or None; its names and numbers are those of the deal."""
        if type(deed) is Do:
            return self.refused_do(deed.numbers)
        if type(deed) is Break:
            return Done(deed.number) if deed.number in self.done() else Broken(deed.number) if deed.number in self.lost() else None
        if deed.name in self.gone():
            return Left(deed.name)
        if type(deed) is SetTrust and deed.trust is not None:
            below = -as_fraction(deed.trust) - self.sums()[self.deal.swap.strangers.index(deed.name)]
            return DrawnOut(deed.name, ratio(below)) if below > 0 else None
        return None

    def refused_do(self, numbers):
        """The error that refuses hand-overs done in this order, or None."""
        for number in numbers:
            hand = self.deal.swap.hands[number]
            if number in self.done():
                return Done(number)
            if number in self.lost():
                return Broken(number)
            for name in (hand.giver, hand.taker):
                if name in self.gone():
                    return Left(name)
            ahead = [e for e, f in self.deal.leanings.pairs if f == number and e not in self.done() and e not in numbers]
            if ahead:
                return Leans(number, min(ahead))
        behind = plain_sums(self.deal.swap, [*self.done(), *numbers])
        for sums in (self.sums(), behind):
            objected = self.objections(sums)
            if objected:
                return Objected(objected[0][0], ratio(objected[0][2]))
        return None

    def left(self):
        """What is left, a Deal."""
        stayed = [place for place, name in enumerate(self.deal.swap.strangers) if name not in self.gone()]
        waiting, sums, bounds = self.waiting(), self.sums(), self.bounds()
        swap = Swap([self.deal.swap.strangers[place] for place in stayed], [self.deal.swap.hands[number] for number in waiting])
        trusts = [None if bounds[place][0] is None else ratio(bounds[place][0] + sums[place]) for place in stayed]
        pledges = [None if bounds[place][1] is None else ratio(bounds[place][1]) for place in stayed]
        pairs = [(waiting.index(e), waiting.index(f)) for e, f in self.deal.leanings.pairs if e in waiting and f in waiting]
        return Deal(swap, Bounds(trusts, pledges), pairs)


def random_deed(rnd, deal):
    """Any deed of the deal's numbers and strangers, refused or not."""
    name = rnd.choice(deal.swap.strangers)
    kind = rnd.choice(["do"] * 8 + ["leave", "break", "trust", "trust", "pledge", "pledge"])
    if len(deal) == 0 and kind in ("do", "break"):
        kind = "pledge"
    if kind == "do":
        return Do(rnd.sample(range(len(deal)), rnd.choice([1, 1, 1, min(2, len(deal)), len(deal)])))
    if kind == "break":
        return Break(rnd.randrange(len(deal)))
    if kind == "leave":
        return Leave(name)
    return SetTrust(name, random_bound(rnd)) if kind == "trust" else SetPledge(name, random_bound(rnd))


def told_by(book, deed):
    """The error that a book raises for a deed, or None."""
    try:
        book.tell(deed)
    except LastError as error:
        return error
    return None


def state_of(book):
    """All that a book tells of itself."""
    return (
        book.deal, book.story, book.done, book.gone, book.lost, book.bounds, book.sums_now, book.hopes, book.waiting, book.objecting,
        len(book), list(book),
    )
