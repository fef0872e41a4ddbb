"""Points [26], [27], [29]: lies of several."""

import random
import time
import unittest
from itertools import combinations, product

from examples import any_objects, crowd, market_n, place, rows_of, small_markets, with_row

from swaphouse.errors import BadLies, BadMarket, BadThings
from swaphouse.lying import lied, losers, together
from swaphouse.markets import Market
from swaphouse.rings import firm_allotment, rounds

LIES = {"dan": ["ann"], "ann": ["eve"]}


def losers_by_trial(market, lies):
    ahead = firm_allotment(market)
    now = firm_allotment(with_row(market, lies))
    for rings in rounds(market):
        for ring in rings:
            if any(now[one] != ahead[one] for one in ring):
                return [one for one in sorted(ring)
                        if one in lies and place(market, one, now[one]) > place(market, one, ahead[one])]
    return []


def all_lies(names, liars):
    rows = [rows_of([other for other in names if other != name]) for name in liars]
    return [dict(zip(liars, told)) for told in product(*rows)]


class TestLying(unittest.TestCase):
    def check(self, market, lies):
        ahead = firm_allotment(market)
        now, words = lied(market, lies)
        self.assertEqual(firm_allotment(with_row(market, lies)), now)
        self.assertEqual(sorted(lies), list(words))
        for one, word in words.items():
            than = place(market, one, now[one]) - place(market, one, ahead[one])
            self.assertEqual("same" if now[one] == ahead[one] else "better" if than < 0 else "worse", word)
        lost = losers(market, lies)
        self.assertEqual(losers_by_trial(market, lies), lost)
        self.assertEqual(now == ahead, lost == [])
        self.assertTrue(all(words[one] == "worse" for one in lost))
        self.assertEqual(now, together(market, {one: now[one] for one in lies}))

    def test_small_markets(self):
        for names in ([], ["a"], ["b", "a"]):
            for market in small_markets(names):
                for many in range(len(names) + 1):
                    for liars in combinations(names, many):
                        for lies in all_lies(names, liars):
                            self.check(market, lies)

    def test_three_people(self):
        chance = random.Random(14)
        names = ["b", "a", "c"]
        for market in small_markets(names):
            for liars in (["a"], ["b", "c"], names):
                for lies in chance.sample(all_lies(names, liars), 5):
                    self.check(market, lies)

    def test_greater_ones(self):
        chance = random.Random(15)
        names = ["a", "b", "c", "d", "e", "f"]
        rows = {name: rows_of([other for other in names if other != name]) for name in names}
        for _ in range(300):
            market = Market(names, {name: chance.choice(rows[name]) for name in names})
            self.check(market, {name: chance.choice(rows[name]) for name in chance.sample(names, 3)})

    def test_together_just_if_all_get_it(self):
        names = ["a", "b", "c"]
        for market in small_markets(names)[::3]:
            for liars in (["a", "c"], ["b"], names):
                told = [firm_allotment(with_row(market, lies)) for lies in all_lies(names, liars)]
                for things in product(names, repeat=len(liars)):
                    found = [gets for gets in told if all(gets[one] == thing for one, thing in zip(liars, things))]
                    gets = together(market, dict(zip(liars, things)))
                    self.assertEqual(bool(found), gets is not None)
                    self.assertTrue(all(one == gets for one in found))

    def test_example(self):
        now, words = lied(market=market_n(), lies=LIES)
        self.assertEqual({"ann": "worse", "dan": "better"}, words)
        self.assertEqual("eve", now["ann"])
        self.assertIsInstance(lied(market_n(), LIES), tuple)
        self.assertEqual(["ann"], losers(market=market_n(), lies=LIES))
        gets = {"ann": "bo", "bo": "ann", "cy": "cy", "dan": "eve", "eve": "dan", "fay": "fay"}
        self.assertEqual(gets, together(market=market_n(), things={"ann": "bo"}))
        self.assertEqual(list(gets), list(together(market_n(), {"ann": "bo"})))
        self.assertIsNone(together(market_n(), {"ann": "bo", "bo": "cy"}))

    def test_nobody_lies(self):
        self.assertEqual((firm_allotment(market_n()), {}), lied(market_n(), {}))
        self.assertEqual([], losers(market_n(), {}))
        self.assertEqual(firm_allotment(market_n()), together(market_n(), {}))
        self.assertEqual(["cy"], list(lied(market_n(), {"cy": ("bo",)})[1]))

    def test_wrong(self):
        market = Market(["x", "y"], {"x": ["y"]})
        lies = [{"x": ["x"]}, {"x": ["y", "y"]}, {"z": []}, {"x": None}, {"x": "y"}, {"x": ["z"]}, {"x": [["y"]]}, {1: []}]
        things = [{"x": "z"}, {"z": "x"}, {"x": ["y"]}, {"x": None}, {1: "x"}]
        for thing in any_objects() + lies:
            if thing != {}:
                for asked in (lied, losers):
                    with self.assertRaises(BadLies) as caught:
                        asked(market, thing)
                    self.assertIs(thing, caught.exception.thing)
        for thing in any_objects() + things:
            if thing != {}:
                with self.assertRaises(BadThings) as caught:
                    together(market, thing)
                self.assertIs(thing, caught.exception.thing)
        for thing in any_objects():
            if not isinstance(thing, Market):
                for asked in (lied, losers, together):
                    with self.assertRaises(BadMarket) as caught:
                        asked(thing, 0)
                    self.assertIs(thing, caught.exception.thing)

    def test_a_dict_changed_between_two_calls(self):
        lies = {"ann": ["eve"]}
        first = lied(market_n(), lies)
        lies["dan"] = ["ann"]
        self.assertEqual(["ann"], losers(market_n(), lies))
        self.assertEqual({"ann": "worse", "dan": "better"}, lied(market_n(), lies)[1])
        del lies["dan"]
        self.assertEqual(first, lied(market_n(), lies))
        lied(market_n(), lies)[0].clear()
        lied(market_n(), lies)[1].clear()
        self.assertEqual(first, lied(market_n(), lies))
        self.assertEqual({"ann": ["eve"]}, lies)

    def test_sixty_promptly(self):
        began = time.time()
        names = crowd(60)
        chance = random.Random(16)
        rows = {name: [other for other in names if other != name] for name in names}
        market = Market(names, {name: chance.sample(rows[name], 50) for name in names})
        for _ in range(10):
            self.check(market, {name: chance.sample(rows[name], 30) for name in chance.sample(names, 20)})
        self.assertLess(time.time() - began, 20)


if __name__ == "__main__":
    unittest.main()
