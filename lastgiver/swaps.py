"""Hand-overs, and swaps of them among strangers."""

from lastgiver.checks import are_names, check_end, check_hand, check_none_twice, is_listed, is_name, word_at, words_of
from lastgiver.errors import BadHandOver, BadNumber, BadSwap, BadText, NoStranger, TooMany, Unlike
from lastgiver.ratios import Ratio, added, amount_at, is_amount, is_ratio


class HandOver:
    """One thing that a giver hands to a taker: what it costs the one, and what the other gains."""

    def __init__(self, giver, taker, cost, gain):
        if not is_name(giver):
            raise BadHandOver("giver")
        if not is_name(taker) or taker == giver:
            raise BadHandOver("taker")
        if not is_amount(cost):
            raise BadHandOver("cost")
        if not is_amount(gain):
            raise BadHandOver("gain")
        self.giver = giver
        self.taker = taker
        self.cost = Ratio.of(cost)
        self.gain = Ratio.of(gain)

    def returned(self):
        """The HandOver that hands this one back."""
        return HandOver(self.taker, self.giver, self.gain, self.cost)

    def effect(self, name):
        """What its effect has at this name, 0 for any value that is neither giver nor taker."""
        if name == self.giver:
            return -self.cost
        if name == self.taker:
            return self.gain
        return Ratio(0)

    def __eq__(self, other):
        if not isinstance(other, HandOver) or self.giver != other.giver or self.taker != other.taker:
            return False
        return self.cost == other.cost and self.gain == other.gain

    def __str__(self):
        return f"{self.giver} {self.taker} {self.cost} {self.gain}"

    @classmethod
    def read(cls, text):
        """The HandOver that the text tells."""
        words = words_of(text)
        hand = _hand_at(words, 0, None)
        check_end(words, 4)
        return hand


class Swap:
    """Strangers, and the hand-overs among them, both in an order."""

    MOST_STRANGERS = 6
    MOST_HANDS = 40

    def __init__(self, strangers, hands):
        if not are_names(strangers) or len(strangers) < 2:
            raise BadSwap("strangers")
        if not is_listed(hands) or not all([isinstance(hand, HandOver) for hand in hands]):
            raise BadSwap("hands")
        check_none_twice(strangers)
        for hand in hands:
            _check_parties(hand, strangers)
        if len(strangers) > Swap.MOST_STRANGERS:
            raise TooMany("strangers", Swap.MOST_STRANGERS)
        if len(hands) > Swap.MOST_HANDS:
            raise TooMany("hands", Swap.MOST_HANDS)
        self.strangers = tuple(strangers)
        self.hands = tuple(hands)
        self.nets = tuple([_net_of(hands, name) for name in strangers])

    @property
    def is_even(self):
        """Whether all nets are 0."""
        return all([net.sign == 0 for net in self.nets])

    @property
    def is_gainful(self):
        """Whether all nets are from 0 on."""
        return all([net.sign >= 0 for net in self.nets])

    @property
    def is_even_priced(self):
        """Whether the cost of each hand-over equals its gain."""
        return all([hand.cost == hand.gain for hand in self.hands])

    def net(self, name):
        """The net of this stranger."""
        check_stranger(self, name)
        return self.nets[self.strangers.index(name)]

    def __len__(self):
        return len(self.hands)

    def __iter__(self):
        return iter(self.hands)

    def __getitem__(self, at):
        check_hand(len(self.hands), at)
        return self.hands[at]

    def __contains__(self, x):
        return is_name(x) and x in self.strangers

    def __eq__(self, other):
        return isinstance(other, Swap) and self.strangers == other.strangers and self.hands == other.hands

    def __neg__(self):
        return Swap(self.strangers, [hand.returned() for hand in self.hands])

    def __add__(self, other):
        if not isinstance(other, Swap):
            raise BadSwap("other")
        if self.strangers != other.strangers:
            raise Unlike("strangers")
        return Swap(self.strangers, self.hands + other.hands)

    def __mul__(self, other):
        if not is_ratio(other) or Ratio.of(other).sign <= 0:
            raise BadNumber("ratio")
        return Swap(self.strangers, [_scaled_hand(hand, other) for hand in self.hands])

    def __str__(self):
        return " | ".join([" ".join(self.strangers), *[str(hand) for hand in self.hands]])

    # A method with a star needs a plain first parameter; here it is the first stranger.
    @staticmethod
    def ring(first=None, *strangers, cost=1, gain=2):
        """The swap in which each stranger gives the next one a thing, the last one the first."""
        names = (first, *strangers)
        if not are_names(names) or len(names) < 2:
            raise BadSwap("strangers")
        if not is_amount(cost):
            raise BadNumber("cost")
        if not is_amount(gain):
            raise BadNumber("gain")
        # Ahead of the hand-overs, since none can go from a stranger to itself.
        check_none_twice(names)
        takers = [*names[1:], names[0]]
        return Swap(names, [HandOver(giver, taker, cost, gain) for giver, taker in zip(names, takers)])

    @classmethod
    def read(cls, text):
        """The Swap that the text tells."""
        words = words_of(text)
        swap, end = swap_at_start(words)
        check_end(words, end)
        return swap


def check_swap(swap):
    """Raise BadSwap for any value that is no Swap."""
    if not isinstance(swap, Swap):
        raise BadSwap("swap")


def check_stranger(swap, name):
    """Raise NoStranger for any value that is no stranger of the swap."""
    if not is_name(name) or name not in swap.strangers:
        raise NoStranger(name)


def _check_parties(hand, strangers):
    """Raise NoStranger for a giver, or else a taker, that is none of these."""
    for name in (hand.giver, hand.taker):
        if name not in strangers:
            raise NoStranger(name)


def _net_of(hands, name):
    """What all these hand-overs together bring a stranger."""
    return added([hand.effect(name) for hand in hands if name in (hand.giver, hand.taker)])


def _scaled_hand(hand, ratio):
    """The hand-over with its cost and its gain times the ratio."""
    return HandOver(hand.giver, hand.taker, hand.cost * ratio, hand.gain * ratio)


def _party_at(words, at, strangers):
    """The name at this place, one of the strangers; any name where these are None."""
    name = word_at(words, at)
    if not is_name(name) or (strangers is not None and name not in strangers):
        raise BadText(0, at)
    return name


def _hand_at(words, at, strangers):
    """The HandOver that the four words from this place on tell."""
    giver = _party_at(words, at, strangers)
    taker = _party_at(words, at + 1, strangers)
    if taker == giver:
        raise BadText(0, at + 1)
    return HandOver(giver, taker, amount_at(words, at + 2), amount_at(words, at + 3))


def _strangers_at_start(words):
    """The strangers with whom the words begin, as many as can be."""
    strangers = []
    for word in words[:Swap.MOST_STRANGERS]:
        if not is_name(word) or word in strangers:
            return strangers
        strangers.append(word)
    return strangers


def swap_at_start(words):
    """The Swap with which the words begin, and the place of the first word behind it."""
    strangers = _strangers_at_start(words)
    if len(strangers) < 2:
        raise BadText(0, len(strangers))
    hands = []
    at = len(strangers)
    while at < len(words) and words[at] == "|" and len(hands) < Swap.MOST_HANDS:
        hands.append(_hand_at(words, at + 1, strangers))
        at = at + 5
    return Swap(strangers, hands), at
