"""Points [43], [45]: in whose place."""

import random
import time
import unittest

from examples import ascends, check_anew, check_indexes, check_markets, check_persons, notice_p
from pairtrials import (NEEDS_CASES, all_lots_papers, all_small, is_lots_paper_by_trial, large_markets, lot_markets, orders,
                        pairings_by_trial, served_in, some_small)

from swaphouse.errors import BadNeeds
from swaphouse.instead import in_whose_place, placed
from swaphouse.markets import Market
from swaphouse.mostpairs import exchange_fault
from swaphouse.needy import served


class TestInstead(unittest.TestCase):
    def check(self, market, needs, person):
        taken = served(market, needs)
        told = in_whose_place(market, needs, person)
        self.assertTrue(isinstance(told, list) and ascends(told))
        self.assertTrue(all(needs.index(one) < needs.index(person) for one in told))
        for other in market.people():
            pairing = placed(market, needs, person, other)
            self.assertEqual(other in told, pairing is not None)
            if pairing is not None:
                self.assertIsNone(exchange_fault(market, pairing))
                self.assertTrue(ascends(pairing))
                self.assertEqual(set(taken) - {other} | {person}, served_in(pairing))
        return told

    def test_small_markets(self):
        chance = random.Random(91)
        for market in all_small() + some_small(chance, 60):
            covers = [served_in(pairing) for pairing in pairings_by_trial(market)]
            for needs in orders(chance, market, 1):
                taken = set(served(market, needs))
                for person in needs:
                    right = [one for one in sorted(taken) if person not in taken
                             and any(taken - {one} | {person} <= cover for cover in covers)]
                    self.assertEqual(right, self.check(market, needs, person))

    def test_they_are_the_people_of_the_lots_of_a_paper(self):
        chance = random.Random(92)
        for market in lot_markets(["b", "a", "c"]) + lot_markets(["c", "a", "d", "b"])[::61]:
            papers = [(few, lots) for few, lots in all_lots_papers(market.people())
                      if len(lots) > len(few) and is_lots_paper_by_trial(market, few, lots)]
            for needs in orders(chance, market, 2):
                taken = served(market, needs)
                for person in [name for name in needs if name not in taken]:
                    lot = sorted(in_whose_place(market, needs, person) + [person])
                    self.assertTrue(set(lot) <= set(taken) | {person})
                    self.assertTrue(any(sorted(name for part in lots for name in part) == lot for _, lots in papers))

    def test_example(self):
        market, needs = notice_p().market(), notice_p().needs()
        self.assertEqual(["eve"], in_whose_place(market=market, needs=needs, person="dan"))
        self.assertEqual({"ann": "cy", "bo": "dan", "cy": "ann", "dan": "bo", "eve": None},
                         placed(market=market, needs=needs, person="dan", other="eve"))
        self.assertEqual([], in_whose_place(market, needs, "eve"))
        self.assertEqual([None] * 3, [placed(market, needs, "dan", "bo"), placed(market, needs, "dan", "dan"),
                                      placed(market, needs, "eve", "dan")])

    def test_edges(self):
        self.assertEqual([], in_whose_place(Market(["a"], {}), ["a"], "a"))
        self.assertEqual([], in_whose_place(Market(["b", "a"], {"b": ["a"]}), ["a", "b"], "a"))

    def test_wrong(self):
        check_markets(self, in_whose_place, placed)
        market, needs = notice_p().market(), notice_p().needs()
        check_indexes(self, BadNeeds, lambda thing: in_whose_place(market, thing, None), NEEDS_CASES)
        check_indexes(self, BadNeeds, lambda thing: placed(market, thing, None, None), NEEDS_CASES)
        check_persons(self, in_whose_place, market, needs)
        check_persons(self, placed, market, needs)

    def test_told_anew(self):
        market, needs = notice_p().market(), notice_p().needs()
        check_anew(self, in_whose_place, market, needs, "dan")
        check_anew(self, in_whose_place, market, needs, "eve")
        check_anew(self, placed, market, tuple(needs), "dan", "eve")

    def test_forty_promptly(self):
        began = time.time()
        chance = random.Random(93)
        for market in large_markets(chance, 40):
            needs = chance.sample(market.people(), len(market.people()))
            left = [name for name in needs if name not in served(market, needs)]
            for person in left[:3]:
                self.check(market, needs, person)
        self.assertLess(time.time() - began, 20)


if __name__ == "__main__":
    unittest.main()
