"""Points [78], [79]: another row of one person."""

import random
import time
import unittest

from examples import (any_objects, check_anew, check_indexes, check_markets, check_persons, check_things, crowd, market_n, notice_o,
                      refused, rows_of, small_markets, with_row)
from ringtrials import larger_markets
from sharetrials import all_small, parties_by_trial, random_market, rings_in, some_markets, some_with_odd_ring

from swaphouse.errors import BadRow, BadWish
from swaphouse.markets import Market
from swaphouse.otherrows import odd_by_row, raised, raising, rerowed
from swaphouse.parties import alone, odd_rings
from swaphouse.rings import firm_allotment


def others_of(market, name):
    return [other for other in market.people() if other != name]


def odd_ones(market):
    return sorted(odd_rings(market) + [[name] for name in alone(market)])


class TestOtherRows(unittest.TestCase):
    def check_odd(self, market, name, row):
        now = rerowed(market, name, row)
        self.assertEqual(with_row(market, {name: list(row)}), now)
        comes, goes = odd_by_row(market, name, row)
        self.assertEqual([ring for ring in odd_ones(now) if ring not in odd_ones(market)], comes)
        self.assertEqual([ring for ring in odd_ones(market) if ring not in odd_ones(now)], goes)
        self.assertIn(len(comes) + len(goes), (0, 2))

    def check_raised(self, market):
        ahead = firm_allotment(market)
        for name in market.people():
            row = market.wants(name)
            for at in range(1, len(row)):
                told = row[:at - 1] + [row[at], row[at - 1]] + row[at + 1:]
                self.assertEqual(with_row(market, {name: told}), raised(market, name, row[at]))
                now = firm_allotment(with_row(market, {name: told}))
                self.assertEqual(("same",) if now == ahead else ("gets", row[at]), raising(market, name, row[at]))
                if now != ahead:
                    self.assertEqual(row[at], now[name])

    def test_odd(self):
        chance = random.Random(195)
        for market in all_small():
            for name in market.people():
                for row in rows_of(others_of(market, name)):
                    self.check_odd(market, name, row)
        for market in some_markets(chance, 150, [4, 5, 6]) + some_with_odd_ring(chance, 80, [4, 5, 6]):
            for name in market.people():
                others = others_of(market, name)
                self.check_odd(market, name, tuple(chance.sample(others, chance.randint(0, len(others)))))

    def test_odd_by_trial(self):
        for market in some_with_odd_ring(random.Random(196), 10, [4, 5]):
            told = [ring for ring in rings_in(parties_by_trial(market)[0]) if len(ring) != 2]
            for name in market.people():
                comes, goes = odd_by_row(market, name, [])
                now = parties_by_trial(with_row(market, {name: []}))[0]
                behind = [ring for ring in rings_in(now) if len(ring) != 2]
                self.assertEqual(([ring for ring in behind if ring not in told], [ring for ring in told if ring not in behind]), (comes, goes))

    def test_rings(self):
        for market in small_markets(["b", "c", "a"]) + larger_markets(random.Random(197), 300, [4, 5, 6]):
            self.check_raised(market)

    def test_example(self):
        self.assertEqual(("gets", "cy"), raising(market=market_n(), person="bo", other="cy"))
        self.assertEqual(("same",), raising(market_n(), "dan", "eve"))
        self.assertEqual(["cy", "ann"], raised(market=market_n(), person="bo", other="cy").wants("bo"))
        self.assertEqual(["fay"], rerowed(market=market_n(), person="dan", row=["fay"]).wants("dan"))
        # ann and cy share still; who else is left alone is bo.
        market = notice_o().market()
        self.assertEqual(([["bo"]], [["ann", "bo", "cy"]]), odd_by_row(market=market, person="bo", row=[]))

    def test_edges(self):
        only = Market(["a"], {})
        self.assertEqual((only, ([], [])), (rerowed(only, "a", ()), odd_by_row(only, "a", [])))
        self.assertEqual("a", refused(self, BadWish, raised, only, "a", "a").thing)
        two = Market(["b", "a"], {"b": ["a"]})
        self.assertEqual(([], [["a"], ["b"]]), odd_by_row(two, "a", ["b"]))
        self.assertEqual(([], []), odd_by_row(two, "b", ["a"]))

    def test_wrong(self):
        check_markets(self, rerowed, odd_by_row, raised, raising)
        cases = [(["bo"], 0), (["ann", "ann"], 1), (["ann", "bo"], 1), (["zed"], 0), (["ann", ["cy"]], 1), (["cy", None, "cy"], 1),
                 (("cy", "ann", "cy"), 2), ([True], 0), (["dan", "eve", "fay", 0], 3), ([{}], 0)]
        for function in (rerowed, odd_by_row):
            check_persons(self, lambda market, person: function(market, person, None), market_n())
            check_indexes(self, BadRow, lambda thing: function(market_n(), "bo", thing), cases)
        for function in (raised, raising):
            check_persons(self, lambda market, person: function(market, person, None), market_n())
            check_things(self, BadWish, lambda thing: function(market_n(), "bo", thing), lambda thing: False)
            for thing in ["ann", "bo", "dan", "zed", ["cy"]] + any_objects():
                self.assertIs(thing, refused(self, BadWish, function, market_n(), "bo", thing).thing)

    def test_told_anew(self):
        check_anew(self, odd_by_row, notice_o().market(), "bo", [])
        check_anew(self, rerowed, market_n(), "bo", ["dan"])
        check_anew(self, raised, market_n(), "bo", "cy")
        check_anew(self, raising, market_n(), "bo", "cy")
        row = ["dan"]
        told = rerowed(market_n(), "bo", row)
        row.append("bo")
        self.assertEqual(["dan"], told.wants("bo"))

    def test_promptly(self):
        began = time.time()
        chance = random.Random(198)
        for part in (0.05, 0.3):
            market = random_market(chance, crowd(60), part)
            for name in market.people()[:10]:
                for other in market.wants(name)[1:]:
                    self.assertIn(raising(market, name, other), (("same",), ("gets", other)))
        for part in (0.2, 1):
            market = random_market(chance, crowd(40), part)
            for name in market.people():
                self.check_odd(market, name, chance.sample(others_of(market, name), 20))
        self.assertLess(time.time() - began, 30)


if __name__ == "__main__":
    unittest.main()
