"""Choices of a deal: some of its hand-overs, none, or all."""

from lastgiver.cells import sets_in_order
from lastgiver.checks import check_end, done_told, hands_told, integer_in, is_within, words_of
from lastgiver.deals import Deal, check_deal
from lastgiver.errors import BadChoice, BadText, TooMany
from lastgiver.leanings import pairs_among
from lastgiver.ratios import added
from lastgiver.turned import portion

MOST_HANDS = 6


class Choice:
    """Some hand-overs of a deal, and the deal of just these."""

    def __init__(self, deal, numbers):
        check_deal(deal)
        self.deal = deal
        self.numbers = done_told(len(deal.swap.hands), numbers, "numbers")
        self.inner = Deal(portion(deal.swap, self.numbers), deal.bounds, pairs_among(deal.leanings, self.numbers))

    @property
    def brings(self):
        """The sum of its nets."""
        return added(self.inner.swap.nets)

    @property
    def is_gainful(self):
        """Whether none of its nets is below 0."""
        return self.inner.swap.is_gainful

    def numbers_of(self, inners):
        """The deal's numbers of some different numbers of the inner deal, in the order passed."""
        return tuple([self.numbers[place] for place in hands_told(len(self.numbers), inners, "inners")])

    def __len__(self):
        return len(self.numbers)

    def __iter__(self):
        return iter(self.numbers)

    def __contains__(self, x):
        return x in self.numbers

    def __eq__(self, other):
        return isinstance(other, Choice) and self.deal == other.deal and self.numbers == other.numbers

    def __or__(self, other):
        _check_other(self, other)
        return Choice(self.deal, [*self.numbers, *[number for number in other.numbers if number not in self.numbers]])

    def __and__(self, other):
        _check_other(self, other)
        return Choice(self.deal, [number for number in self.numbers if number in other.numbers])

    def __str__(self):
        if len(self.numbers) == 0:
            return "-"
        return " ".join([str(number) for number in self.numbers])

    @staticmethod
    def read(deal, text):
        """The Choice of a deal that the text tells."""
        check_deal(deal)
        words = words_of(text)
        if words[0] == "-":
            check_end(words, 1)
            return Choice(deal, ())
        numbers = []
        for at, word in enumerate(words):
            number = integer_in(word)
            least = numbers[-1] + 1 if len(numbers) > 0 else 0
            if not is_within(number, least, len(deal.swap.hands) - 1):
                raise BadText(0, at)
            numbers.append(number)
        return Choice(deal, numbers)

    @staticmethod
    def whole(deal):
        """The Choice of all hand-overs."""
        check_deal(deal)
        return Choice(deal, list(range(len(deal.swap.hands))))

    @staticmethod
    def none(deal):
        """The Choice of no hand-over."""
        return Choice(deal, ())


def choices(deal):
    """Yield all Choices, those of fewer hand-overs first."""
    check_deal(deal)
    check_few_choices(deal)
    for numbers in sets_in_order(len(deal.swap.hands)):
        yield Choice(deal, numbers)


def check_few_choices(deal):
    """Raise TooMany for more hand-overs than can be chosen in all ways."""
    if len(deal.swap.hands) > MOST_HANDS:
        raise TooMany("hands", MOST_HANDS)


def _check_other(choice, other):
    """Raise BadChoice for what is no Choice of an equal deal."""
    if not isinstance(other, Choice) or choice.deal != other.deal:
        raise BadChoice("other")
