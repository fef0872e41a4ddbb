"""The errors of the package, each right beneath SwapError.

They keep the very objects they are made with, under the names of their parameters.
"""


class SwapError(ValueError):
    """What all errors of the package are."""


class AsksOn(SwapError):
    """An asker asks more questions than many."""
    def __init__(self, many):
        self.many = many


class BadAllotment(SwapError):
    """What was passed is no allotment of the market."""
    def __init__(self, thing):
        self.thing = thing


class BadAsk(SwapError):
    """An asker told neither a question nor an allotment."""
    def __init__(self, thing):
        self.thing = thing


class BadAsker(SwapError):
    """What was passed is no asker."""
    def __init__(self, thing):
        self.thing = thing


class BadBounds(SwapError):
    """What was passed is no bounds of the market."""
    def __init__(self, thing):
        self.thing = thing


class BadDeed(SwapError):
    """What was passed has not the form of a deed."""
    def __init__(self, thing):
        self.thing = thing


class BadGivers(SwapError):
    """The thing at index is no giver, or stood before."""
    def __init__(self, index):
        self.index = index


class BadKnown(SwapError):
    """What was passed is nothing that can be known of these people."""
    def __init__(self, thing):
        self.thing = thing


class BadLies(SwapError):
    """What was passed is no dict from people to rows."""
    def __init__(self, thing):
        self.thing = thing


class BadLot(SwapError):
    """The thing at index is none of the people, or stood before."""
    def __init__(self, index):
        self.index = index


class BadLots(SwapError):
    """What was passed is no lots' paper."""
    def __init__(self, thing):
        self.thing = thing


class BadMarket(SwapError):
    """What was passed is no market."""
    def __init__(self, thing):
        self.thing = thing


class BadName(SwapError):
    """What was passed is no name that may stand here."""
    def __init__(self, thing):
        self.thing = thing


class BadNeeds(SwapError):
    """The thing at index does not belong into the needs, or lacks there."""
    def __init__(self, index):
        self.index = index


class BadNotice(SwapError):
    """What was passed is no notice."""
    def __init__(self, thing):
        self.thing = thing


class BadNumber(SwapError):
    """What was passed is no number that may stand here."""
    def __init__(self, thing):
        self.thing = thing


class BadPairing(SwapError):
    """What was passed is no pairing of the market."""
    def __init__(self, thing):
        self.thing = thing


class BadPairings(SwapError):
    """The thing at index is no pairing that may stand here, or lacks."""
    def __init__(self, index):
        self.index = index


class BadPaper(SwapError):
    """What was passed is no paper."""
    def __init__(self, thing):
        self.thing = thing


class BadPapers(SwapError):
    """The thing at index is no paper of these people."""
    def __init__(self, index):
        self.index = index


class BadPeople(SwapError):
    """The thing at index is no name, or stood before."""
    def __init__(self, index):
        self.index = index


class BadPlace(SwapError):
    """What was passed is no place."""
    def __init__(self, thing):
        self.thing = thing


class BadQuestion(SwapError):
    """What was passed is no question now."""
    def __init__(self, thing):
        self.thing = thing


class BadResult(SwapError):
    """What was passed is no result."""
    def __init__(self, thing):
        self.thing = thing


class BadRow(SwapError):
    """The thing at index is none of the other people, or stood before."""
    def __init__(self, index):
        self.index = index


class BadRule(SwapError):
    """What was passed is no rule."""
    def __init__(self, thing):
        self.thing = thing


class BadSession(SwapError):
    """What was passed is no session."""
    def __init__(self, thing):
        self.thing = thing


class BadSides(SwapError):
    """What was passed is no list of sides, one for each switch."""
    def __init__(self, thing):
        self.thing = thing


class BadSteps(SwapError):
    """What was passed is no steps."""
    def __init__(self, thing):
        self.thing = thing


class BadText(SwapError):
    """The text is none: its first wrong sign is here."""
    def __init__(self, line, sign):
        self.line = line
        self.sign = sign


class BadThings(SwapError):
    """What was passed is no dict from people to people."""
    def __init__(self, thing):
        self.thing = thing


class BadWish(SwapError):
    """What was passed is nothing that could be raised in the row."""
    def __init__(self, thing):
        self.thing = thing


class BadWishes(SwapError):
    """What was passed is no dict from people to their rows."""
    def __init__(self, thing):
        self.thing = thing


class HasTie(SwapError):
    """The two are one and the same, or have a tie."""
    def __init__(self, one, other):
        self.one = one
        self.other = other


class InUse(SwapError):
    """A watched question would be none behind the deed."""
    def __init__(self, question):
        self.question = question


class IsWatched(SwapError):
    """The question is watched, or held, already."""
    def __init__(self, question):
        self.question = question


class NoBetterRow(SwapError):
    """What was passed is no better row of the pairing."""
    def __init__(self, thing):
        self.thing = thing


class NoCount(SwapError):
    """What was passed is no count of deeds."""
    def __init__(self, thing):
        self.thing = thing


class NoFirm(SwapError):
    """The market has no firm pairing, but this odd ring."""
    def __init__(self, ring):
        self.ring = ring


class NoPerson(SwapError):
    """What was passed is none of the people."""
    def __init__(self, thing):
        self.thing = thing


class NoRule(SwapError):
    """What was passed is no function."""
    def __init__(self, thing):
        self.thing = thing


class NoTie(SwapError):
    """The two are one and the same, or have no tie."""
    def __init__(self, one, other):
        self.one = one
        self.other = other


class NotFirm(SwapError):
    """What was passed is no firm pairing."""
    def __init__(self, pairing):
        self.pairing = pairing


class NotWatched(SwapError):
    """The question is not watched."""
    def __init__(self, question):
        self.question = question


class Stays(SwapError):
    """The two would not leave the pairing."""
    def __init__(self, one, other):
        self.one = one
        self.other = other


class TurnsRound(SwapError):
    """What is known of a person's likings goes round."""
    def __init__(self, person, ring):
        self.person = person
        self.ring = ring


class WouldChange(SwapError):
    """A held question would be answered otherwise."""
    def __init__(self, question, why):
        self.question = question
        self.why = why
