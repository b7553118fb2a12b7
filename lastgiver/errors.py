"""All errors of the package."""


class LastError(ValueError):
    """The base of all errors of the package."""


class BadRatio(LastError):
    """No part of a ratio, or no ratio."""

    def __init__(self, part):
        self.part = part


class BadHandOver(LastError):
    """No part of a hand-over, or no HandOver."""

    def __init__(self, part):
        self.part = part


class BadSwap(LastError):
    """No part of a swap, or no Swap."""

    def __init__(self, part):
        self.part = part


class BadBounds(LastError):
    """No part of bounds, or no Bounds."""

    def __init__(self, part):
        self.part = part


class BadLeanings(LastError):
    """No leanings."""

    def __init__(self, part):
        self.part = part


class BadDeal(LastError):
    """No Deal, or not one that fits."""

    def __init__(self, part):
        self.part = part


class BadRow(LastError):
    """No row."""

    def __init__(self, part):
        self.part = part


class BadDone(LastError):
    """No done set."""

    def __init__(self, part):
        self.part = part


class BadCounts(LastError):
    """No counts."""

    def __init__(self, part):
        self.part = part


class BadDial(LastError):
    """No Dial, or not one that fits."""

    def __init__(self, part):
        self.part = part


class BadWay(LastError):
    """No groups of a way."""

    def __init__(self, part):
        self.part = part


class BadKeeper(LastError):
    """No part of a keeper, or no Keeper."""

    def __init__(self, part):
        self.part = part


class BadKeepers(LastError):
    """No part of keepers, or no Keepers."""

    def __init__(self, part):
        self.part = part


class BadLaid(LastError):
    """No amounts to be laid."""

    def __init__(self, part):
        self.part = part


class BadChoice(LastError):
    """No Choice, or not one that fits."""

    def __init__(self, part):
        self.part = part


class BadBook(LastError):
    """No part of a deed, or no Book."""

    def __init__(self, part):
        self.part = part


class BadStory(LastError):
    """No story, or one that is refused."""

    def __init__(self, part):
        self.part = part


class BadShare(LastError):
    """No share."""

    def __init__(self, part):
        self.part = part


class BadPlay(LastError):
    """No way of playing."""

    def __init__(self, part):
        self.part = part


class BadNumber(LastError):
    """No number, or none within its bounds."""

    def __init__(self, part):
        self.part = part


class BadPaper(LastError):
    """No such paper."""

    def __init__(self, part):
        self.part = part


class Missing(LastError):
    """Any value that is none here."""

    def __init__(self, name):
        self.name = name


class NoStranger(Missing):
    """A value that is no stranger here."""

    def __init__(self, name):
        self.name = name


class NoKeeper(Missing):
    """A value that is no keeper here."""

    def __init__(self, name):
        self.name = name


class NoHand(LastError):
    """No number of a hand-over."""

    def __init__(self, number):
        self.number = number


class NoRow(LastError):
    """No number of a good row."""

    def __init__(self, number):
        self.number = number


class Twice(LastError):
    """One that stood ahead already."""

    def __init__(self, value):
        self.value = value


class Unlike(LastError):
    """Two values that do not fit together."""

    def __init__(self, what):
        self.what = what


class Loser(LastError):
    """Somebody whose net is below 0."""

    def __init__(self, name):
        self.name = name


class Below(LastError):
    """A bound that would be below 0."""

    def __init__(self, name, side, amount):
        self.name = name
        self.side = side
        self.amount = amount


class Ring(LastError):
    """Leanings that have a ring."""

    def __init__(self, number, numbers):
        self.number = number
        self.numbers = numbers


class Ahead(LastError):
    """One has to be done ahead of other."""

    def __init__(self, one, other):
        self.one = one
        self.other = other


class NotGood(LastError):
    """A row that is not good, and its first bad moment."""

    def __init__(self, moment):
        self.moment = moment


class NoWay(LastError):
    """A done set that has to be allowed, and who objects there."""

    def __init__(self, done, name):
        self.done = done
        self.name = name


class Objects(LastError):
    """Who objects on a way, and where."""

    def __init__(self, name, amount, place):
        self.name = name
        self.amount = amount
        self.place = place


class NotEven(LastError):
    """A hand-over whose cost is not its gain."""

    def __init__(self, number):
        self.number = number


class NotTwo(LastError):
    """Another number of strangers than two."""

    def __init__(self, many):
        self.many = many


class NotCoprime(LastError):
    """Two numbers with a common divisor."""

    def __init__(self, one, other):
        self.one = one
        self.other = other


class TooNarrow(LastError):
    """Too small a greatest group."""

    def __init__(self, number):
        self.number = number


class Beyond(LastError):
    """One that is not there, or not chosen."""

    def __init__(self, number):
        self.number = number


class Alone(LastError):
    """Fewer than two strangers have stayed."""


class Left(LastError):
    """Somebody who has left."""

    def __init__(self, name):
        self.name = name


class Done(LastError):
    """A hand-over that is done already."""

    def __init__(self, number):
        self.number = number


class Broken(LastError):
    """A hand-over that is broken."""

    def __init__(self, number):
        self.number = number


class Leans(LastError):
    """A hand-over that leans on another one."""

    def __init__(self, number, other):
        self.number = number
        self.other = other


class Objected(LastError):
    """Somebody objects."""

    def __init__(self, name, amount):
        self.name = name
        self.amount = amount


class DrawnOut(LastError):
    """Somebody would be drawn out."""

    def __init__(self, name, amount):
        self.name = name
        self.amount = amount


class NoDeed(LastError):
    """There is no such deed."""


class TooMany(LastError):
    """There are more than most."""

    def __init__(self, what, most):
        self.what = what
        self.most = most


class BadText(LastError):
    """A word of a text that cannot stand, or that is missing."""

    def __init__(self, line, word):
        self.line = line
        self.word = word


class BadLine(LastError):
    """A line of a desk, and the error raised there."""

    def __init__(self, line, error):
        self.line = line
        self.error = error
