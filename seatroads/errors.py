"""The errors of the package: each keeps the very object that it is made with."""


class OfficeError(ValueError):
    """What all errors of the package are."""


class BadRank(OfficeError):
    """A key of the ranks that is no name, or whose value is no rank."""

    def __init__(self, kind):
        self.kind = kind


class BadKind(OfficeError):
    """No kind of the office."""

    def __init__(self, kind):
        self.kind = kind


class BadEvent(OfficeError):
    """A key of the events that is no time, whose value is no event, or whose come tells a name again."""

    def __init__(self, time):
        self.time = time


class BadTime(OfficeError):
    """No time."""

    def __init__(self, time):
        self.time = time


class NoPerson(OfficeError):
    """The name of nobody here."""

    def __init__(self, name):
        self.name = name


class BadTruth(OfficeError):
    """The number of what is no truth, or cannot be heard."""

    def __init__(self, index):
        self.index = index


class NoRoad(OfficeError):
    """The number of a truth that puts or strikes a gather or a round."""

    def __init__(self, index):
        self.index = index


class BadLetter(OfficeError):
    """The number of what is no letter, or cannot be one there."""

    def __init__(self, index):
        self.index = index


class BadWishes(OfficeError):
    """No list of unlike kinds."""

    def __init__(self, thing):
        self.thing = thing


class BadPerson(OfficeError):
    """The number of what is no person of the round."""

    def __init__(self, index):
        self.index = index


class BadFree(OfficeError):
    """What tells no numbers of free places."""

    def __init__(self, thing):
        self.thing = thing


class BadMatching(OfficeError):
    """No matching of the round."""

    def __init__(self, thing):
        self.thing = thing


class BadSide(OfficeError):
    """Neither "people" nor "kinds"."""

    def __init__(self, side):
        self.side = side


class NotStable(OfficeError):
    """No stable matching."""

    def __init__(self, matching):
        self.matching = matching


class BadNumber(OfficeError):
    """No number of the kind that is wanted."""

    def __init__(self, number):
        self.number = number


class BadTurns(OfficeError):
    """No numbers of turns that can be done together."""

    def __init__(self, numbers):
        self.numbers = numbers


class BadRow(OfficeError):
    """The number of what is no row of a book, or cannot be done there."""

    def __init__(self, index):
        self.index = index


class BadDeed(OfficeError):
    """The number of what is no deed, or cannot be written there."""

    def __init__(self, index):
        self.index = index


class BadAccount(OfficeError):
    """No account."""

    def __init__(self, account):
        self.account = account


class BadName(OfficeError):
    """No name."""

    def __init__(self, thing):
        self.thing = thing


class BadFloor(OfficeError):
    """No integer up to 0."""

    def __init__(self, floor):
        self.floor = floor


class BadBooks(OfficeError):
    """The number of what cannot stand there in books."""

    def __init__(self, index):
        self.index = index


class BadFee(OfficeError):
    """What tells no fees."""

    def __init__(self, thing):
        self.thing = thing


class BadHearing(OfficeError):
    """The number of what is no hearing, or cannot be heard."""

    def __init__(self, index):
        self.index = index


class BadHoldings(OfficeError):
    """What tells no holdings."""

    def __init__(self, thing):
        self.thing = thing


class BadItem(OfficeError):
    """The number of what is no item."""

    def __init__(self, index):
        self.index = index


class NotFeasible(OfficeError):
    """No feasible set of items."""

    def __init__(self, numbers):
        self.numbers = numbers


class BadCoins(OfficeError):
    """What tells no coins."""

    def __init__(self, thing):
        self.thing = thing


class BadDebts(OfficeError):
    """What tells no debts."""

    def __init__(self, thing):
        self.thing = thing


class NoMember(OfficeError):
    """No member."""

    def __init__(self, member):
        self.member = member


class NotPayments(OfficeError):
    """No payments of these debts."""

    def __init__(self, thing):
        self.thing = thing


class NotFailing(OfficeError):
    """A member that does not fail."""

    def __init__(self, who):
        self.who = who


class BadHolds(OfficeError):
    """What does not tell who holds which kind."""

    def __init__(self, thing):
        self.thing = thing


class BadWay(OfficeError):
    """The number of what is no ring there."""

    def __init__(self, index):
        self.index = index


class BadOutcome(OfficeError):
    """No outcome of the exchange."""

    def __init__(self, outcome):
        self.outcome = outcome


class BadHall(OfficeError):
    """No hall of the office."""

    def __init__(self, hall):
        self.hall = hall


class NotAsked(OfficeError):
    """No time at which wishes were told."""

    def __init__(self, time):
        self.time = time


class BadTable(OfficeError):
    """The part of a table that is otherwise than it must be."""

    def __init__(self, part):
        self.part = part


class BadComer(OfficeError):
    """No comer of the table."""

    def __init__(self, comer):
        self.comer = comer


class BadCounts(OfficeError):
    """No counts of the table."""

    def __init__(self, counts):
        self.counts = counts


class BadBook(OfficeError):
    """No book of the table."""

    def __init__(self, book):
        self.book = book


class BadPeople(OfficeError):
    """A key of the people that is no name, or tells nobody of their own."""

    def __init__(self, name):
        self.name = name


class BadRule(OfficeError):
    """No rule."""

    def __init__(self, rule):
        self.rule = rule


class BadText(OfficeError):
    """The first line up to which no text of this kind begins so."""

    def __init__(self, line):
        self.line = line


class Nothing(OfficeError):
    """There is nothing to take back, or to do again."""
