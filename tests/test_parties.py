"""Points [53] to [56], [59]: parties, odd rings, firm pairings, rows asked through."""

import random
import time
import unittest

from examples import ascends, check_anew, check_markets, crowd, notice_o, notice_s, with_row
from sharetrials import (all_small, blocks, firm_by_trial, parties_by_trial, random_market, rings_in, sharing_by_trial,
                         some_markets, some_with_odd_ring, two_sides)

from swaphouse.firmness import party_fault, share_fault
from swaphouse.markets import Market
from swaphouse.parties import alone, asked_rows, firm_pairing, odd_rings, party

RING = {"ann": "bo", "bo": "cy", "cy": "ann"}


def asked_by_trial(market, chance):
    """By the words of [55], people asking in any order."""
    rows = sharing_by_trial(market)
    asks = {}
    kept = {}
    free = sorted(rows)
    while free:
        name = free.pop(chance.randrange(len(free)))
        if name in asks or not rows[name]:
            continue
        first = rows[name][0]
        asks[name] = first
        if first in kept and kept[first] != name:
            del asks[kept[first]]
            free.append(kept[first])
        kept[first] = name
        at = rows[first].index(name)
        for other in rows[first][at + 1:]:
            rows[other].remove(first)
            if asks.get(other) == first:
                del asks[other]
            free.append(other)
        rows[first] = rows[first][:at + 1]
    return rows


class TestParties(unittest.TestCase):
    def check(self, market):
        told = party(market)
        self.assertIsNone(party_fault(market, told))
        self.assertTrue(ascends(told))
        rings = rings_in(told)
        odd = [ring for ring in rings if len(ring) > 2]
        self.assertTrue(all(len(ring) % 2 for ring in odd))
        self.assertEqual((odd, [ring[0] for ring in rings if len(ring) == 1]), (odd_rings(market), alone(market)))
        pairing = firm_pairing(market)
        self.assertEqual(1, [bool(odd), pairing is not None].count(True))
        if pairing is not None:
            self.assertIsNone(share_fault(market, pairing))
            self.assertTrue(ascends(pairing))
        self.check_asked(market, told)

    def check_asked(self, market, told):
        """IT HOLDS of [55] and FACTS of [56] of one party."""
        rows = asked_rows(market)
        shared = sharing_by_trial(market)
        ahead = {other: name for name, other in told.items()}
        self.assertTrue(ascends(rows) and set(rows) == set(market.people()))
        for name, row in rows.items():
            self.assertEqual(row, [other for other in shared[name] if other in row])
            self.assertTrue(all(name in rows[other] for other in row))
            if row:
                self.assertEqual(name, rows[row[0]][-1])
                self.assertGreaterEqual(shared[name].index(told[name]), shared[name].index(row[0]))
                self.assertLessEqual(shared[name].index(ahead[name]), shared[name].index(row[-1]))
            else:
                self.assertEqual(name, told[name])

    def check_by_trial(self, market):
        parties = parties_by_trial(market)
        firm = firm_by_trial(market)
        self.assertIn(party(market), parties)
        self.assertEqual(bool(firm), firm_pairing(market) is not None)
        if firm:
            self.assertIn(firm_pairing(market), firm)
        for told in parties:
            self.assertEqual(odd_rings(market), [ring for ring in rings_in(told) if len(ring) > 2])
            self.assertEqual(alone(market), [name for name in sorted(told) if told[name] == name])
        for pairing in firm:
            self.assertEqual(alone(market), [name for name in sorted(pairing) if pairing[name] is None])
        of_pairs = [told for told in parties if all(told[told[name]] == name for name in told)]
        self.assertEqual(len(of_pairs), len(firm))
        for pairing in firm:
            self.assertIn({name: pairing[name] or name for name in pairing}, of_pairs)
        rows = asked_rows(market)
        for told in parties:
            self.assertTrue(all(other == name or other in rows[name] for name, other in told.items()))

    def test_small_markets(self):
        for market in all_small() + some_markets(random.Random(141), 250, [4, 5, 6]):
            self.check(market)
            self.check_by_trial(market)

    def test_odd_rings(self):
        for market in some_with_odd_ring(random.Random(142), 60, [4, 5, 6]):
            self.check(market)
            self.check_by_trial(market)
            self.assertTrue(odd_rings(market))

    def test_asked_in_whatever_order(self):
        chance = random.Random(143)
        for market in all_small()[::2] + some_markets(chance, 200, [4, 5, 6]):
            for _ in range(3):
                self.assertEqual(asked_by_trial(market, chance), asked_rows(market))

    def test_facts(self):
        chance = random.Random(144)
        for market in some_markets(chance, 60, [4, 5]):
            for pairing in firm_by_trial(market):
                for name, mate in pairing.items():
                    if mate is not None:
                        row = market.wants(name)
                        self.assertIsNone(share_fault(with_row(market, {name: row[:row.index(mate) + 1]}), pairing))
            names = market.people()
            every = Market(names, {name: chance.sample([other for other in names if other != name], len(names) - 1)
                                   for name in names})
            self.assertLessEqual(len(alone(every)), 1)

    def test_example(self):
        market = notice_s().market()
        self.assertEqual(market.wishes(), asked_rows(market=market))
        pairings = [{"ann": "bo", "bo": "ann", "cy": "dan", "dan": "cy"}, {"ann": "dan", "bo": "cy", "cy": "bo", "dan": "ann"}]
        self.assertIn(firm_pairing(market=market), pairings)
        market = notice_o().market()
        self.assertEqual([["ann", "bo", "cy"]], odd_rings(market=market))
        self.assertEqual((RING, None), (party(market=market), firm_pairing(market)))
        self.assertEqual([], alone(market=market))
        rows = {name: row + ["dan"] for name, row in market.wishes().items()}
        with_dan = Market(["dan", "ann", "bo", "cy"], {**rows, "dan": ["cy", "ann", "bo"]})
        self.assertEqual((["dan"], [["ann", "bo", "cy"]]), (alone(with_dan), odd_rings(with_dan)))
        self.assertEqual({**RING, "dan": "dan"}, party(with_dan))

    def test_edges(self):
        none = Market([], {})
        self.assertEqual(({}, {}, [], [], {}), (asked_rows(none), party(none), odd_rings(none), alone(none), firm_pairing(none)))
        one_way = Market(["b", "a"], {"b": ["a"]})
        self.assertEqual(({"a": [], "b": []}, {"a": "a", "b": "b"}, ["a", "b"], {"a": None, "b": None}),
                         (asked_rows(one_way), party(one_way), alone(one_way), firm_pairing(one_way)))

    def test_wrong(self):
        check_markets(self, asked_rows, party, odd_rings, alone, firm_pairing)

    def test_told_anew(self):
        for function in (asked_rows, party, odd_rings, alone, firm_pairing):
            for market in (notice_s().market(), notice_o().market(), Market(["a", "b"], {})):
                check_anew(self, function, market)
                self.assertEqual(function(market), function(Market(tuple(market.people()), market.wishes())))

    def test_forty_promptly(self):
        began = time.time()
        chance = random.Random(145)
        for many in (39, 40):
            for part in (0.1, 0.3, 0.6, 1, 1, 1):
                self.check(random_market(chance, crowd(many), part))
        names = crowd(39)
        rows = {name: names[at + 1:] + names[:at] for at, name in enumerate(names)}
        self.check(Market(names, rows))
        ring = Market(names, {name: [names[(at + 1) % 39], names[at - 1]] for at, name in enumerate(names)})
        self.check(ring)
        self.assertEqual([names], odd_rings(ring))
        three = Market(names, {name: [names[at // 3 * 3 + (at + 1) % 3], names[at // 3 * 3 + (at + 2) % 3]]
                               for at, name in enumerate(names)})
        self.check(three)
        self.assertEqual(13, len(odd_rings(three)))
        self.check(blocks(10))
        self.check(two_sides(20))
        self.assertLess(time.time() - began, 20)


if __name__ == "__main__":
    unittest.main()
