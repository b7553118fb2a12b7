"""Dials: some trusts and pledges, each with a weight, that are turned together."""

from lastgiver.bounds import Bounds
from lastgiver.checks import check_end, done_told, is_name, word_at, words_of
from lastgiver.deals import check_deal
from lastgiver.errors import BadDial, BadNumber, BadText, NoStranger
from lastgiver.ratios import Ratio, amount_at, is_amount
from lastgiver.sums import done_set, sums
from lastgiver.swaps import check_swap
from lastgiver.weeks import check_no_loser


class Dial:
    """Weights of some trusts and of some pledges; these bounds are on the dial."""

    def __init__(self, trust_weights, pledge_weights):
        if not _are_weights(trust_weights):
            raise BadDial("trust_weights")
        if not _are_weights(pledge_weights):
            raise BadDial("pledge_weights")
        self.trust_weights = _kept_weights(trust_weights)
        self.pledge_weights = _kept_weights(pledge_weights)

    @staticmethod
    def all_trust(swap):
        """The trusts of all strangers, with weight 1."""
        check_swap(swap)
        return Dial(_ones(swap), {})

    @staticmethod
    def all_pledge(swap):
        """The pledges of all strangers, with weight 1."""
        check_swap(swap)
        return Dial({}, _ones(swap))

    @staticmethod
    def all_bounds(swap):
        """The trusts and the pledges of all strangers, with weight 1."""
        check_swap(swap)
        return Dial(_ones(swap), _ones(swap))

    @staticmethod
    def one_trust(name):
        """One trust with weight 1."""
        _check_name(name)
        return Dial({name: 1}, {})

    @staticmethod
    def one_pledge(name):
        """One pledge with weight 1."""
        _check_name(name)
        return Dial({}, {name: 1})

    @staticmethod
    def as_told(deal):
        """All bounds that are not wide, with themselves as weights."""
        check_deal(deal)
        names = deal.swap.strangers
        return Dial(_told_bounds(names, deal.bounds.trusts), _told_bounds(names, deal.bounds.pledges))

    @staticmethod
    def by_weeks(swap):
        """All pledges, with the nets as weights."""
        check_swap(swap)
        check_no_loser(swap)
        return Dial({}, _told_bounds(swap.strangers, swap.nets))

    @classmethod
    def read(cls, text):
        """The Dial that the text tells."""
        words = words_of(text)
        _check_word(words, 0, "trust")
        trust_weights, at = _weights_at(words, 1)
        _check_word(words, at, "|")
        _check_word(words, at + 1, "pledge")
        pledge_weights, at = _weights_at(words, at + 2)
        check_end(words, at)
        return cls(trust_weights, pledge_weights)

    def exchanged(self):
        """The Dial with trusts and pledges exchanged."""
        return Dial(dict(self.pledge_weights), dict(self.trust_weights))

    def at(self, deal, x):
        """The deal with each bound on the dial at its weight times x."""
        check_deal(deal)
        if not is_amount(x):
            raise BadNumber("x")
        self.check_strangers(deal.swap)
        names = deal.swap.strangers
        trusts = _turned(names, deal.bounds.trusts, dict(self.trust_weights), x)
        pledges = _turned(names, deal.bounds.pledges, dict(self.pledge_weights), x)
        return deal.with_bounds(Bounds(trusts, pledges))

    def need(self, swap, done):
        """What a done set needs: the number, and the name and the side of the first bound that needs it."""
        told = done_set(swap, done)
        self.check_strangers(swap)
        most = Ratio(0)
        first = (None, None)
        for name, side, weight, amount in self._amounts(swap, sums(swap, told)):
            if amount.sign > 0 and weight.sign == 0:
                return None, name, side
            if amount.sign > 0 and most.is_below(amount.over(weight)):
                most = amount.over(weight)
                first = (name, side)
        return most, first[0], first[1]

    def allowed_from(self, deal, done):
        """The number from which on a done set is allowed, None if it is at none."""
        check_deal(deal)
        told = done_told(len(deal.swap.hands), done, "done")
        self.check_strangers(deal.swap)
        if len(deal.broken(told)) > 0:
            return None
        if not all([self._has(objection.name, objection.side) for objection in deal.objections(told)]):
            return None
        return self.need(deal.swap, told)[0]

    def check_strangers(self, swap):
        """Raise NoStranger for the first name that the dial has and the swap lacks."""
        for name in sorted([pair[0] for pair in [*self.trust_weights, *self.pledge_weights]]):
            if name not in swap.strangers:
                raise NoStranger(name)

    def __eq__(self, other):
        if not isinstance(other, Dial) or self.trust_weights != other.trust_weights:
            return False
        return self.pledge_weights == other.pledge_weights

    def __str__(self):
        return " ".join(["trust", *_words_of(self.trust_weights), "|", "pledge", *_words_of(self.pledge_weights)])

    def _has(self, name, side):
        """Whether this bound is on the dial."""
        pairs = self.trust_weights if side == "drawn" else self.pledge_weights
        return name in [pair[0] for pair in pairs]

    def _amounts(self, swap, line):
        """For each bound on the dial, as objections are ordered: name, side, weight, how far it is passed at 0."""
        trust_weights = dict(self.trust_weights)
        pledge_weights = dict(self.pledge_weights)
        found = []
        for name, total, net in zip(swap.strangers, line, swap.nets):
            if name in trust_weights:
                found.append((name, "drawn", trust_weights[name], -total))
            if name in pledge_weights:
                found.append((name, "leaves", pledge_weights[name], total - net))
        return found


def check_dial(value, part):
    """Raise BadDial for any value that is no Dial."""
    if not isinstance(value, Dial):
        raise BadDial(part)


def _are_weights(value):
    """Whether any value is a dict from names to ratios from 0 on."""
    return isinstance(value, dict) and all([is_name(name) and is_amount(value[name]) for name in value])


def _kept_weights(weights):
    """The pairs of names and weights, ascending."""
    return tuple([(name, Ratio.of(weights[name])) for name in sorted(list(weights))])


def _ones(swap):
    """The weight 1 for each stranger."""
    return {name: 1 for name in swap.strangers}


def _check_name(name):
    """Raise NoStranger for what is no name."""
    if not is_name(name):
        raise NoStranger(name)


def _told_bounds(names, bounds):
    """The bounds that are not wide, by names."""
    return {name: bound for name, bound in zip(names, bounds) if bound is not None}


def _turned(names, bounds, weights, x):
    """These bounds, each that has a weight at its weight times x."""
    return [weights[name] * x if name in weights else bound for name, bound in zip(names, bounds)]


def _words_of(pairs):
    """The words that tell names and weights."""
    return [word for name, weight in pairs for word in (name, str(weight))]


def _check_word(words, at, word):
    """Raise BadText unless this word stands at this place."""
    if word_at(words, at) != word:
        raise BadText(0, at)


def _weights_at(words, at):
    """The weights that are told from this place on, by names, and the place behind them."""
    weights = {}
    last = ""
    while at < len(words) and is_name(words[at]) and last < words[at]:
        last = words[at]
        weights[last] = amount_at(words, at + 1)
        at = at + 2
    return weights, at
