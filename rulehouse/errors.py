"""The errors of the package. Each holds what it was made with under the names of its parameters."""


class HouseError(ValueError):
    def __init__(self):
        super().__init__()


class BadBody(HouseError):
    def __init__(self, index):
        self.index = index


class BadCall(HouseError):
    def __init__(self, thing):
        self.thing = thing


class BadCalls(HouseError):
    def __init__(self, thing):
        self.thing = thing


class BadChances(HouseError):
    def __init__(self, thing):
        self.thing = thing


class BadContents(HouseError):
    def __init__(self, thing):
        self.thing = thing


class BadDeed(HouseError):
    def __init__(self, thing):
        self.thing = thing


class BadDenial(HouseError):
    def __init__(self, index):
        self.index = index


class BadFact(HouseError):
    def __init__(self, index):
        self.index = index


class BadFees(HouseError):
    def __init__(self, index):
        self.index = index


class BadFold(HouseError):
    def __init__(self, index):
        self.index = index


class BadKind(HouseError):
    def __init__(self, thing):
        self.thing = thing


class BadLetter(HouseError):
    def __init__(self, index):
        self.index = index


class BadLevels(HouseError):
    def __init__(self, thing):
        self.thing = thing


class BadLine(HouseError):
    def __init__(self, index):
        self.index = index


class BadNumber(HouseError):
    def __init__(self, thing):
        self.thing = thing


class BadOrder(HouseError):
    def __init__(self, thing):
        self.thing = thing


class BadPage(HouseError):
    def __init__(self, thing):
        self.thing = thing


class BadPlan(HouseError):
    def __init__(self, thing):
        self.thing = thing


class BadPolynomial(HouseError):
    def __init__(self, thing):
        self.thing = thing


class BadPrices(HouseError):
    def __init__(self, thing):
        self.thing = thing


class BadProduct(HouseError):
    def __init__(self, thing):
        self.thing = thing


class BadPromise(HouseError):
    def __init__(self, index):
        self.index = index


class BadQuestion(HouseError):
    def __init__(self, thing):
        self.thing = thing


class BadRecord(HouseError):
    def __init__(self, index):
        self.index = index


class BadRule(HouseError):
    def __init__(self, index):
        self.index = index


class BadSome(HouseError):
    def __init__(self, index):
        self.index = index


class BadStep(HouseError):
    def __init__(self, index):
        self.index = index


class BadTake(HouseError):
    def __init__(self, index):
        self.index = index


class BadText(HouseError):
    def __init__(self, line):
        self.line = line


class BadTimes(HouseError):
    def __init__(self, index):
        self.index = index


class BadViews(HouseError):
    def __init__(self, index):
        self.index = index


class BadWidth(HouseError):
    def __init__(self, width):
        self.width = width


class BadWorths(HouseError):
    def __init__(self, thing):
        self.thing = thing


class BadWrite(HouseError):
    def __init__(self, index):
        self.index = index


class BothWays(HouseError):
    def __init__(self, fact):
        self.fact = fact


class Broken(HouseError):
    def __init__(self, name, match):
        self.name = name
        self.match = match


class Busy(HouseError):
    def __init__(self, page, other):
        self.page = page
        self.other = other


class Ended(HouseError):
    def __init__(self, name):
        self.name = name


class HasNot(HouseError):
    def __init__(self, index):
        self.index = index


class HasUnlike(HouseError):
    def __init__(self, index):
        self.index = index


class IsMade(HouseError):
    def __init__(self, relation):
        self.relation = relation


class LogBehind(HouseError):
    def __init__(self, page):
        self.page = page


class Loose(HouseError):
    def __init__(self, index, letter):
        self.index = index
        self.letter = letter


class MadeWrite(HouseError):
    def __init__(self, index):
        self.index = index


class NoAtom(HouseError):
    def __init__(self, thing):
        self.thing = thing


class NoDealing(HouseError):
    def __init__(self, name):
        self.name = name


class NoFact(HouseError):
    def __init__(self, thing):
        self.thing = thing


class NoIndex(HouseError):
    def __init__(self, contents):
        self.contents = contents


class NoName(HouseError):
    def __init__(self, name):
        self.name = name


class NoPage(HouseError):
    def __init__(self, page):
        self.page = page


class NoPart(HouseError):
    def __init__(self, index):
        self.index = index


class NoPromise(HouseError):
    def __init__(self, number):
        self.number = number


class NoRepair(HouseError):
    def __init__(self):
        super().__init__()


class NoRule(HouseError):
    def __init__(self, number):
        self.number = number


class NoRuleThing(HouseError):
    def __init__(self, thing):
        self.thing = thing


class NoText(HouseError):
    def __init__(self, thing):
        self.thing = thing


class NoVersion(HouseError):
    def __init__(self, number):
        self.number = number


class NoWay(HouseError):
    def __init__(self, index):
        self.index = index


class NotGiven(HouseError):
    def __init__(self, thing):
        self.thing = thing


class NotOpen(HouseError):
    def __init__(self, name):
        self.name = name


class NotPlain(HouseError):
    def __init__(self, index):
        self.index = index


class RingThroughNot(HouseError):
    def __init__(self, ring):
        self.ring = ring


class Ringed(HouseError):
    def __init__(self, relation):
        self.relation = relation


class TakenName(HouseError):
    def __init__(self, name):
        self.name = name


class Uneven(HouseError):
    def __init__(self, index, relation):
        self.index = index
        self.relation = relation


class Unsafe(HouseError):
    def __init__(self, index, letter):
        self.index = index
        self.letter = letter
