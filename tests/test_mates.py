"""Points [65], [67]: mates, bounds for them, and the least worst place."""

import random
import time
import unittest
from itertools import combinations, product

from examples import ascends, check_anew, check_persons, check_things, crowd, notice_s, refused
from sharetrials import blocks, check_no_firm, firm_by_trial, firm_markets, random_market, sharing_by_trial, two_sides

from swaphouse.errors import BadBounds, BadPlace
from swaphouse.firms import firm_pairings
from swaphouse.markets import Market
from swaphouse.mates import bounds_clash, firm_within, least_worst, mates, place_clash
from swaphouse.parties import odd_rings

FIRST = {"ann": "bo", "bo": "ann", "cy": "dan", "dan": "cy"}
SECOND = {"ann": "dan", "bo": "cy", "cy": "bo", "dan": "ann"}


def keeps(rows, pairing, name, bound):
    """By the words of [65]."""
    row = rows[name]
    return pairing[name] is not None and row.index(bound[0]) <= row.index(pairing[name]) <= row.index(bound[1])


def clash_by_trial(names, firm, is_kept):
    """The first of the shortest ascending lists of names whose wishes no firm pairing keeps, None if there is none."""
    if any(all(is_kept(pairing, name) for name in names) for pairing in firm):
        return None
    for many in range(1, len(names) + 1):
        for lot in combinations(sorted(names), many):
            if not any(all(is_kept(pairing, name) for name in lot) for pairing in firm):
                return list(lot)
    return None


def place_in(rows, pairing, name):
    return rows[name].index(pairing[name]) + 1


def random_bounds(chance, rows):
    told = {}
    for name in chance.sample(sorted(rows), len(rows)):
        if rows[name] and chance.random() < 0.6:
            at, last = sorted(chance.choices(range(len(rows[name])), k=2))
            told[name] = chance.choice([tuple, list])((rows[name][at], rows[name][last]))
    return told


class TestMates(unittest.TestCase):
    def check_bounds(self, market, firm, bounds):
        rows = sharing_by_trial(market)
        pairing = firm_within(market, bounds)
        clash = bounds_clash(market, bounds)
        self.assertEqual(1, [pairing, clash].count(None))
        self.assertEqual(clash_by_trial(bounds, firm, lambda told, name: keeps(rows, told, name, bounds[name])), clash)
        if pairing is None:
            self.assertIn(len(clash), (1, 2))
        else:
            self.assertIn(pairing, firm)
            self.assertTrue(ascends(pairing))
            self.assertTrue(all(keeps(rows, pairing, name, bound) for name, bound in bounds.items()))

    def check_places(self, market, firm):
        rows = sharing_by_trial(market)
        names = [name for name in firm[0] if firm[0][name] is not None]
        worst = [max([place_in(rows, pairing, name) for name in names], default=0) for pairing in firm]
        place, pairing = least_worst(market)
        self.assertEqual(min(worst), place)
        self.assertIn(pairing, [told for told, number in zip(firm, worst) if number == place])
        for number in range(len(rows) + 1):
            clash = place_clash(market, number)
            self.assertEqual(clash_by_trial(names, firm, lambda told, name: place_in(rows, told, name) <= number), clash)
            self.assertEqual(number < place, clash is not None)

    def check_mates(self, market, firm):
        rows = sharing_by_trial(market)
        for name, row in rows.items():
            self.assertEqual([mate for mate in row if any(told[name] == mate for told in firm)], mates(market, name))

    def test_small_markets(self):
        chance = random.Random(174)
        for market in firm_markets(chance, 120, 40):
            firm = firm_by_trial(market)
            self.check_mates(market, firm)
            self.check_places(market, firm)
            for _ in range(8):
                self.check_bounds(market, firm, random_bounds(chance, sharing_by_trial(market)))

    def test_all_bounds_of_one_market(self):
        for market in (notice_s().market(), two_sides(2)):
            rows = sharing_by_trial(market)
            choices = [[None] + [(row[at], row[last]) for at in range(len(row)) for last in range(at, len(row))] for row in rows.values()]
            for told in product(*choices):
                bounds = {name: bound for name, bound in zip(rows, told) if bound is not None}
                self.check_bounds(market, firm_by_trial(market), bounds)

    def test_example(self):
        market = notice_s().market()
        self.assertEqual(["bo", "dan"], mates(market=market, person="ann"))
        bounds = {"ann": ("bo", "bo"), "bo": ("cy", "cy")}
        self.assertEqual(["ann", "bo"], bounds_clash(market=market, bounds=bounds))
        self.assertIsNone(firm_within(market=market, bounds=bounds))
        self.assertEqual(2, least_worst(market=market)[0])
        self.assertEqual(["ann", "bo"], place_clash(market=market, place=1))
        self.assertIsNone(place_clash(market, 2))
        self.assertEqual(SECOND, firm_within(market, {"bo": ["cy", "cy"]}))
        self.assertEqual(FIRST, firm_within(market, {"bo": ("ann", "ann"), "cy": ("dan", "bo")}))

    def test_edges(self):
        for market in (Market([], {}), Market(["a"], {}), Market(["b", "a"], {"b": ["a"]})):
            only = firm_pairings(market)[0]
            self.assertEqual((0, only), least_worst(market))
            self.assertIsNone(place_clash(market, 0))
            self.assertEqual((only, None), (firm_within(market, {}), bounds_clash(market, {})))
            self.assertTrue(all(mates(market, name) == [] for name in market.people()))
        # Of three who name one another round, one is alone, and keeps no bounds.
        market = Market(["a", "b", "c"], {"a": ["b", "c"], "b": ["a", "c"], "c": ["a", "b"]})
        self.assertEqual(({"a": "b", "b": "a", "c": None}), least_worst(market)[1])
        self.assertEqual((None, ["c"]), (firm_within(market, {"c": ("a", "b")}), bounds_clash(market, {"c": ("a", "b")})))
        self.assertEqual((["a"], None), (place_clash(market, 0), place_clash(market, 1)))

    def test_wrong(self):
        check_no_firm(self, mates, firm_within, bounds_clash, least_worst, place_clash)
        # dan names eve, who does not name it; cy is behind bo in ann's row.
        market = Market(["ann", "bo", "cy", "dan", "eve"], {"ann": ["bo", "cy"], "bo": ["ann"], "cy": ["ann"], "dan": ["eve"]})
        check_persons(self, mates, market)
        wrong = [{"ann": ("cy", "bo")}, {"ann": ("bo", "bo", "bo")}, {"ann": "bo"}, {"ann": ("bo",)}, {"dan": ("eve", "eve")},
                 {"zed": ("bo", "bo")}, {"ann": ("bo", "ann")}, {"bo": ("ann", "ann"), "cy": ("ann", "bo")}, {"eve": ()},
                 {"ann": [["bo"], "bo"]}, {"ann": (None, None)}, {"bo": ("cy", "cy")}, {1: ("bo", "bo")}, {"ann": {"bo": "bo"}}]
        for function in (firm_within, bounds_clash):
            check_things(self, BadBounds, lambda thing: function(market, thing), lambda thing: thing == {})
            for thing in wrong:
                self.assertIs(thing, refused(self, BadBounds, function, market, thing).thing)
        check_things(self, BadPlace, lambda thing: place_clash(market, thing),
                     lambda thing: isinstance(thing, int) and not isinstance(thing, bool) and thing >= 0)

    def test_told_anew(self):
        market = notice_s().market()
        check_anew(self, mates, market, "ann")
        check_anew(self, least_worst, market)
        check_anew(self, place_clash, market, 1)
        bounds = {"ann": ["bo", "bo"], "bo": ["cy", "cy"]}
        check_anew(self, bounds_clash, market, bounds)
        check_anew(self, firm_within, market, {"bo": ["cy", "cy"]})
        self.assertEqual(firm_within(market, {"bo": ("cy", "ann"), "cy": ("dan", "bo")}),
                         firm_within(market, {"cy": ["dan", "bo"], "bo": ["cy", "ann"]}))

    def test_twenty_promptly(self):
        began = time.time()
        chance = random.Random(175)
        markets = [blocks(5), two_sides(10)] + [random_market(chance, crowd(20), 1) for _ in range(10)]
        for market in markets:
            if not odd_rings(market):
                firm = firm_pairings(market)
                self.check_mates(market, firm)
                self.check_places(market, firm)
                for _ in range(10):
                    self.check_bounds(market, firm, random_bounds(chance, {name: mates(market, name) for name in market.people()}))
        self.assertLess(time.time() - began, 60)


if __name__ == "__main__":
    unittest.main()
