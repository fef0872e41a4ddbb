"""Points [44], [45]: needs and ties changed."""

import random
import time
import unittest

from examples import (any_objects, ascends, check_anew, check_indexes, check_markets, check_persons, check_things, lots, notice_p,
                      refused, with_row)
from pairtrials import (NEEDS_CASES, all_small, large_markets, orders, pairings_by_trial, served_in, some_small, tied,
                        ties_by_trial)

from swaphouse.errors import BadNeeds, BadPlace, HasTie
from swaphouse.markets import Market
from swaphouse.needmoves import with_need, with_tie
from swaphouse.needy import served


def moved(needs, person, place):
    told = [name for name in needs if name != person]
    told.insert(place, person)
    return told


def with_both(market, one, other):
    """The market in which each is in the other's row besides."""
    rows = market.wishes()
    for name, more in ((one, other), (other, one)):
        rows[name] = rows[name] if more in rows[name] else rows[name] + [more]
    return Market(market.people(), rows)


class TestNeedMoves(unittest.TestCase):
    def check_told(self, told, ahead, behind):
        self.assertIsInstance(told, tuple)
        self.assertEqual((sorted(set(ahead) - set(behind)), sorted(set(behind) - set(ahead))), told)

    def check_need(self, market, needs, person, place):
        told = with_need(market, needs, person, place)
        self.check_told(told, served(market, needs), served(market, moved(needs, person, place)))
        falls, comes = told
        self.assertTrue(told == ([], []) or len(falls) == len(comes) == 1 and person in falls + comes)

    def check_tie(self, market, needs, one, other):
        told = with_tie(market, needs, one, other)
        self.check_told(told, served(market, needs), served(with_both(market, one, other), needs))
        falls, comes = told
        self.assertTrue(told == ([], []) or falls == [] and len(comes) == 2 or
                        len(falls) == len(comes) == 1 and needs.index(comes[0]) < needs.index(falls[0]))

    def test_small_markets(self):
        chance = random.Random(101)
        for market in all_small()[::3] + some_small(chance, 40):
            for needs in orders(chance, market, 1):
                for person in needs:
                    for place in range(len(needs)):
                        self.check_need(market, needs, person, place)
                    for other in needs:
                        if person != other and tuple(sorted((person, other))) not in ties_by_trial(market):
                            self.check_tie(market, needs, person, other)

    def test_nobody_gains_by_another_row(self):
        """FACT of [44]."""
        chance = random.Random(102)
        for market in some_small(chance, 25)[:25]:
            for needs in orders(chance, market, 2):
                for person in [name for name in needs if name not in served(market, needs)]:
                    others = [name for name in market.people() if name != person]
                    for row in [()] + list(lots(others)):
                        told = with_row(market, {person: list(row)})
                        taken = set(served(told, needs))
                        for pairing in pairings_by_trial(told):
                            if served_in(pairing) == taken:
                                self.assertNotIn(pairing[person], market.wants(person))

    def test_example(self):
        market, needs = notice_p().market(), notice_p().needs()
        self.assertEqual((["eve"], ["dan"]), with_need(market=market, needs=needs, person="dan", place=0))
        self.assertEqual(([], []), with_need(market, needs, "dan", 4))
        self.assertEqual(([], []), with_tie(market=market, needs=needs, one="ann", other="dan"))
        self.assertEqual((["bo"], ["cy"]), with_tie(tied(["ann", "bo", "cy"], [("ann", "bo")]), ["ann", "cy", "bo"], "cy", "ann"))
        self.assertEqual(([], ["ann", "cy"]), with_tie(Market(["ann", "bo", "cy"], {}), ["ann", "bo", "cy"], "cy", "ann"))

    def test_edges(self):
        self.assertEqual(([], []), with_need(Market(["a"], {}), ["a"], "a", 0))
        one_way = Market(["b", "a"], {"b": ["a"]})
        self.assertEqual(([], ["a", "b"]), with_tie(one_way, ["a", "b"], "b", "a"))

    def test_wrong(self):
        check_markets(self, with_need, with_tie)
        market, needs = notice_p().market(), notice_p().needs()
        for function in (with_need, with_tie):
            check_indexes(self, BadNeeds, lambda thing: function(market, thing, None, None), NEEDS_CASES)
            check_persons(self, function, market, needs)
        check_things(self, BadPlace, lambda thing: with_need(market, needs, "ann", thing),
                     lambda thing: isinstance(thing, int) and not isinstance(thing, bool) and thing in range(5))
        for place in (5, -1, 10 ** 9):
            self.assertEqual(place, refused(self, BadPlace, with_need, market, needs, "dan", place).thing)
        for one, other in (("ann", "ann"), ("ann", "cy"), ("eve", "bo")):
            error = refused(self, HasTie, with_tie, market, needs, one, other)
            self.assertEqual((one, other), (error.one, error.other))
        self.assertTrue(any(thing is True for thing in any_objects()))

    def test_told_anew(self):
        market, needs = notice_p().market(), notice_p().needs()
        check_anew(self, with_need, market, needs, "dan", 0)
        check_anew(self, with_need, market, needs, "dan", 4)
        check_anew(self, with_tie, market, tuple(needs), "ann", "dan")
        self.assertTrue(all(ascends(part) for part in with_tie(Market(["b", "a"], {}), ("b", "a"), "b", "a")))

    def test_forty_promptly(self):
        began = time.time()
        chance = random.Random(103)
        for market in large_markets(chance, 40):
            needs = chance.sample(market.people(), len(market.people()))
            for _ in range(5):
                person, other = chance.sample(needs, 2)
                self.check_need(market, needs, person, chance.randrange(len(needs)))
                if tuple(sorted((person, other))) not in ties_by_trial(market):
                    self.check_tie(market, needs, person, other)
        self.assertLess(time.time() - began, 20)


if __name__ == "__main__":
    unittest.main()
