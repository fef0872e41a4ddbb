"""Points [63], [64], [67]: switches, the sides on which they stand, and what sides need."""

import random
import time
import unittest
from itertools import combinations, product

from examples import any_objects, check_anew, notice_s, refused
from sharetrials import (are_neighbours, blocks, check_no_firm, check_not_firm, firm_by_trial, firm_markets, sharing_by_trial,
                         side_by_trial, switches_by_trial, two_sides)

from swaphouse.errors import BadSides
from swaphouse.firms import firm_pairings
from swaphouse.markets import Market
from swaphouse.switches import broken_need, pairing_by, side_needs, sides, switches

FIRST = {"ann": "bo", "bo": "ann", "cy": "dan", "dan": "cy"}
SECOND = {"ann": "dan", "bo": "cy", "cy": "bo", "dan": "ann"}


def needs_by_trial(told):
    """By the words of [64], from the lists of sides of all firm pairings."""
    many = len(told[0])
    found = []
    for at, side, other, other_side in product(range(many), (0, 1), range(many), (0, 1)):
        if at != other and all(here[other] == other_side for here in told if here[at] == side):
            found.append((at, side, other, other_side))
    return found


class TestSwitches(unittest.TestCase):
    def check(self, market, firm):
        rows = sharing_by_trial(market)
        rings = switches(market)
        self.assertEqual(switches_by_trial(market, firm), rings)
        told = [sides(market, pairing) for pairing in firm]
        self.assertEqual([[side_by_trial(rows, pairing, ring) for ring in rings] for pairing in firm], told)
        self.check_facts(market, firm, told)
        self.assertEqual(needs_by_trial(told), side_needs(market))
        for here in product((0, 1), repeat=len(rings)):
            self.check_sides(market, firm, told, list(here))

    def check_sides(self, market, firm, told, here):
        pairing = pairing_by(market, here)
        broken = broken_need(market, tuple(here))
        self.assertEqual(1, [pairing, broken].count(None))
        self.assertEqual(firm[told.index(here)] if here in told else None, pairing)
        breaks = [need for need in needs_by_trial(told) if here[need[0]] == need[1] and here[need[2]] != need[3]]
        self.assertEqual(breaks[0] if breaks else None, broken)

    def check_facts(self, market, firm, told):
        """FACTS of [63]."""
        rows = sharing_by_trial(market)
        rings = switches(market)
        self.assertEqual(len(firm), len({tuple(here) for here in told}))
        for (one, here), (other, there) in combinations(list(zip(firm, told)), 2):
            apart = [at for at in range(len(rings)) if here[at] != there[at]]
            self.assertEqual(len(apart) == 1, are_neighbours(rows, firm, one, other))
            if len(apart) == 1:
                ring = rings[apart[0]]
                self.assertTrue(len(ring) >= 4 and len(ring) % 2 == 0)
                for name, behind, ahead in zip(ring, ring[1:] + ring[:1], ring[-1:] + ring[:-1]):
                    self.assertEqual({behind, ahead}, {one[name], other[name]})
        for ring, pairing in product(rings, firm):
            self.check_ring(rows, ring, pairing, side_by_trial(rows, pairing, ring))

    def check_ring(self, rows, ring, pairing, side):
        """On side 1 a mate is the other hand, or beyond; the same from each of its people; none stands between."""
        for at, name in enumerate(ring):
            hands = (ring[(at + 1) % len(ring)], ring[at - 1])
            second, last = (rows[name].index(one) for one in (hands if at % 2 == 0 else hands[::-1]))
            mate = rows[name].index(pairing[name])
            sign = 1 if second < last else -1
            self.assertTrue(sign * mate <= sign * second if side == 0 else sign * mate >= sign * last)

    def test_small_markets(self):
        chance = random.Random(171)
        for market in firm_markets(chance, 150, 40):
            self.check(market, firm_by_trial(market))

    def test_example(self):
        market = notice_s().market()
        self.assertEqual([["ann", "bo", "cy", "dan"]], switches(market=market))
        self.assertEqual([], side_needs(market=market))
        self.assertEqual(([0], [1]), (sides(market=market, pairing=FIRST), sides(market=market, pairing=SECOND)))
        self.assertEqual((FIRST, SECOND), (pairing_by(market=market, sides=[0]), pairing_by(market, (1,))))
        self.assertIsNone(broken_need(market=market, sides=[0]))

    def test_needs(self):
        market = two_sides(3)
        told = [sides(market, pairing) for pairing in firm_pairings(market)]
        self.assertEqual(3, len(told))
        needs = side_needs(market)
        self.assertEqual(2, len(needs))
        self.assertEqual(sorted(needs), needs)
        self.assertTrue(all(isinstance(need, tuple) for need in needs))
        missing = [here for here in ([0, 0], [0, 1], [1, 0], [1, 1]) if here not in told]
        self.assertEqual(1, len(missing))
        self.assertIsNone(pairing_by(market, missing[0]))
        self.assertEqual(needs[0], broken_need(market, missing[0]))

    def test_edges(self):
        for market in (Market([], {}), Market(["a"], {}), Market(["b", "a"], {"b": ["a"]}), Market(["a", "b"], {"a": ["b"], "b": ["a"]})):
            firm = firm_pairings(market)
            self.assertEqual(1, len(firm))
            self.assertEqual(([], [], []), (switches(market), side_needs(market), sides(market, firm[0])))
            self.assertEqual((firm[0], None), (pairing_by(market, []), broken_need(market, ())))

    def test_wrong(self):
        check_no_firm(self, switches, sides, side_needs, pairing_by, broken_need)
        market = notice_s().market()
        check_not_firm(self, lambda thing: sides(market, thing), [FIRST, SECOND])
        for function in (pairing_by, broken_need):
            wrong = [[], [0, 0], [2], [-1], [True], [False], [None], ["0"], [[0]], {0: 0}, (0, 1)]
            for thing in any_objects() + wrong:
                if thing not in ([0], [1]) or True in thing:
                    self.assertIs(thing, refused(self, BadSides, function, market, thing).thing)
            self.assertEqual([], refused(self, BadSides, function, market, []).thing)

    def test_told_anew(self):
        market = two_sides(3)
        check_anew(self, switches, market)
        check_anew(self, side_needs, market)
        check_anew(self, sides, market, firm_pairings(market)[1])
        check_anew(self, pairing_by, market, sides(market, firm_pairings(market)[1]))
        check_anew(self, broken_need, market, [0, 1])

    def test_twenty_promptly(self):
        began = time.time()
        for market, many in ((blocks(5), 32), (two_sides(10), 10), (blocks(4), 16)):
            firm = firm_pairings(market)
            self.assertEqual(many, len(firm))
            rings = switches(market)
            self.assertEqual(switches_by_trial(market, firm), rings)
            told = [sides(market, pairing) for pairing in firm]
            self.assertEqual(needs_by_trial(told), side_needs(market))
            for here, pairing in zip(told, firm):
                self.assertEqual((pairing, None), (pairing_by(market, here), broken_need(market, here)))
                turned = [1 - side if at == 0 else side for at, side in enumerate(here)]
                self.check_sides(market, firm, told, turned)
        self.assertLess(time.time() - began, 30)


if __name__ == "__main__":
    unittest.main()
