"""Points [62], [66], [67]: what stands in the middle of firm pairings, and ways from one to another."""

import random
import time
import unittest
from itertools import product

from examples import ascends, check_anew, check_indexes, notice_s, refused, turned_dict
from sharetrials import (are_neighbours, blocks, check_no_firm, check_not_firm, firm_by_trial, firm_markets, lies_between,
                         sharing_by_trial, two_sides)

from swaphouse.errors import BadPairings, NotFirm
from swaphouse.firms import firm_pairings
from swaphouse.markets import Market
from swaphouse.middles import apart, middle, way
from swaphouse.switches import sides

FIRST = {"ann": "bo", "bo": "ann", "cy": "dan", "dan": "cy"}
SECOND = {"ann": "dan", "bo": "cy", "cy": "bo", "dan": "ann"}


def middle_by_trial(rows, pairings):
    """By the words of [62]."""
    told = {}
    for name, row in rows.items():
        places = sorted(row.index(pairing[name]) for pairing in pairings if pairing[name] is not None)
        told[name] = row[places[len(pairings) // 2]] if places else None
    return told


def shortest(rows, firm, start):
    """How many steps from neighbour to neighbour lead from a firm pairing to each, by trial."""
    far = {start: 0}
    waiting = [start]
    for at in waiting:
        for other in range(len(firm)):
            if other not in far and are_neighbours(rows, firm, firm[at], firm[other]):
                far[other] = far[at] + 1
                waiting.append(other)
    return far


class TestMiddles(unittest.TestCase):
    def check_middle(self, market, firm, pairings):
        rows = sharing_by_trial(market)
        told = middle(market, pairings)
        self.assertEqual(middle_by_trial(rows, pairings), told)
        self.assertTrue(ascends(told))
        self.assertIn(told, firm)
        if len(pairings) == 3:
            for one, other in ((0, 1), (0, 2), (1, 2)):
                self.assertTrue(lies_between(rows, told, pairings[one], pairings[other]))

    def check_ways(self, market, firm):
        rows = sharing_by_trial(market)
        for start in range(len(firm)):
            far = shortest(rows, firm, start)
            self.assertEqual(len(firm), len(far))
            for goal in range(len(firm)):
                self.check_way(market, firm, start, goal, far[goal])

    def check_way(self, market, firm, start, goal, steps):
        one, other = firm[start], turned_dict(firm[goal])
        indexes = apart(market, one, other)
        self.assertEqual([at for at, (side, there) in enumerate(zip(sides(market, one), sides(market, other))) if side != there], indexes)
        passed = way(market, one, other)
        self.assertEqual((one, other), (passed[0], passed[-1]))
        self.assertEqual((steps + 1, len(indexes) + 1), (len(passed), len(passed)))
        self.assertTrue(all(ascends(pairing) for pairing in passed))
        rows = sharing_by_trial(market)
        for now, behind in zip(passed, passed[1:]):
            self.assertTrue(are_neighbours(rows, firm, now, behind))

    def test_small_markets(self):
        chance = random.Random(172)
        for market in firm_markets(chance, 100, 30):
            firm = firm_by_trial(market)
            for many in (1, 3):
                for pairings in list(product(firm, repeat=many))[:40]:
                    self.check_middle(market, firm, list(pairings))
            self.check_middle(market, firm, [turned_dict(chance.choice(firm)) for _ in range(5)])
            self.check_ways(market, firm)

    def test_example(self):
        market = notice_s().market()
        self.assertEqual(FIRST, middle(market=market, pairings=(SECOND, FIRST, FIRST)))
        self.assertEqual(SECOND, middle(market, [SECOND, FIRST, SECOND, SECOND, FIRST]))
        self.assertEqual([0], apart(market=market, one=FIRST, other=SECOND))
        self.assertEqual([SECOND, FIRST], way(market=market, one=SECOND, other=FIRST))
        self.assertEqual(([], [FIRST]), (apart(market, FIRST, FIRST), way(market, FIRST, FIRST)))

    def test_edges(self):
        for market in (Market([], {}), Market(["a"], {}), Market(["b", "a"], {"b": ["a"]})):
            only = firm_pairings(market)[0]
            self.assertEqual((only, [], [only]), (middle(market, [only]), apart(market, only, only), way(market, only, only)))

    def test_wrong(self):
        check_no_firm(self, middle, apart, way)
        market = notice_s().market()
        alone = dict.fromkeys(FIRST)
        cases = [([], 0), ((), 0), ([FIRST, SECOND], 2), ([FIRST] * 4, 4), ([alone], 0), ([FIRST, SECOND, alone], 2),
                 ([FIRST, None], 1), ([FIRST, [], alone, SECOND], 1), ((SECOND, {**FIRST, "ann": None}), 1), ([1, 2], 0)]
        check_indexes(self, BadPairings, lambda thing: middle(market, thing), cases)
        for function in (apart, way):
            check_not_firm(self, lambda thing: function(market, thing, None), [FIRST, SECOND])
            check_not_firm(self, lambda thing: function(market, FIRST, thing), [FIRST, SECOND])
            self.assertIs(alone, refused(self, NotFirm, function, market, alone, dict(alone)).pairing)

    def test_told_anew(self):
        market = two_sides(3)
        firm = firm_pairings(market)
        check_anew(self, middle, market, firm)
        check_anew(self, apart, market, firm[0], firm[2])
        check_anew(self, way, market, firm[0], firm[2])
        one = firm[1]
        self.assertIsNot(one, way(market, one, one)[0])
        self.assertIsNot(one, middle(market, [one]))

    def test_twenty_promptly(self):
        began = time.time()
        chance = random.Random(173)
        for market in (blocks(5), two_sides(10)):
            firm = firm_pairings(market)
            for _ in range(10):
                self.check_middle(market, firm, [chance.choice(firm) for _ in range(chance.choice([3, 5, 39]))])
            far = shortest(sharing_by_trial(market), firm, 0)
            for goal in range(len(firm)):
                self.check_way(market, firm, 0, goal, far[goal])
        self.assertLess(time.time() - began, 30)


if __name__ == "__main__":
    unittest.main()
