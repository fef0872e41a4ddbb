"""Point [4]: the errors."""

import unittest

from swaphouse import errors

LISTED = """AsksOn(many), BadAllotment(thing), BadAsk(thing), BadAsker(thing), BadBounds(thing), BadDeed(thing),
BadGivers(index), BadKnown(thing), BadLies(thing), BadLot(index), BadLots(thing), BadMarket(thing), BadName(thing),
BadNeeds(index), BadNotice(thing), BadNumber(thing), BadPairing(thing), BadPairings(index), BadPaper(thing),
BadPapers(index), BadPeople(index), BadPlace(thing), BadQuestion(thing), BadResult(thing), BadRow(index),
BadRule(thing), BadSession(thing), BadSides(thing), BadSteps(thing), BadText(line, sign), BadThings(thing),
BadWish(thing), BadWishes(thing), HasTie(one, other), InUse(question), IsWatched(question), NoBetterRow(thing),
NoCount(thing), NoFirm(ring), NoPerson(thing), NoRule(thing), NoTie(one, other), NotFirm(pairing),
NotWatched(question), Stays(one, other), TurnsRound(person, ring), WouldChange(question, why)"""


def listed():
    """The pairs of an error's name and the names of its parameters."""
    for part in LISTED.replace("\n", " ").split("), "):
        name, told = part.rstrip(")").split("(")
        yield name, told.split(", ")


class TestErrors(unittest.TestCase):
    def test_all_are_there(self):
        self.assertEqual(47, len(list(listed())))
        for name, _ in listed():
            self.assertTrue(hasattr(errors, name), name)

    def test_right_beneath_swap_error(self):
        self.assertEqual((ValueError,), errors.SwapError.__bases__)
        kinds = [getattr(errors, name) for name, _ in listed()]
        self.assertEqual(47, len(set(kinds)))
        for kind in kinds:
            self.assertEqual((errors.SwapError,), kind.__bases__)

    def test_swap_error_itself(self):
        self.assertIsInstance(errors.SwapError(), ValueError)

    def test_keep_the_very_objects(self):
        for name, parameters in listed():
            things = [[name, parameter] for parameter in parameters]
            for error in (getattr(errors, name)(*things),
                          getattr(errors, name)(**dict(zip(parameters, things)))):
                for parameter, thing in zip(parameters, things):
                    self.assertIs(thing, getattr(error, parameter))


if __name__ == "__main__":
    unittest.main()
