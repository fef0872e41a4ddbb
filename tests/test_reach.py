"""Points [23], [25], [29]: what one could get, and whom one sways."""

import random
import time
import unittest

from examples import any_objects, crowd, market_n, rows_of, small_markets, with_row

from swaphouse.errors import BadMarket, NoPerson
from swaphouse.markets import Market
from swaphouse.reach import could_get, is_two_rows, result_by, swayed, two_rows
from swaphouse.rings import firm_allotment

OF_OTHER = [result_by, two_rows, lambda market, person, other: is_two_rows(market, person, other, None)]


def all_told(market, person):
    """The pairs of a row that the person can tell and of the allotment by it."""
    others = [name for name in market.people() if name != person]
    return [(row, firm_allotment(with_row(market, {person: row}))) for row in rows_of(others)]


class TestReach(unittest.TestCase):
    def check(self, market, person):
        told = all_told(market, person)
        could = could_get(market, person)
        self.assertEqual(sorted({gets[person] for _, gets in told}), could)
        for other in market.people():
            gets = result_by(market, person, other)
            self.assertEqual(other not in could, gets is None)
            for _, now in told:
                if now[person] == other:
                    self.assertEqual(gets, now)
            self.check_two_rows(market, person, other, told)
        sways = [other for other in sorted(market.people())
                 if other != person and len({gets[other] for _, gets in told}) > 1]
        self.assertEqual(sways, swayed(market, person))
        self.assertEqual([other for other in could if other != person], sways)
        row = market.wants(person) + [person]
        self.assertEqual(min([thing for thing in could if thing in row], key=row.index),
                         firm_allotment(market)[person])

    def check_two_rows(self, market, person, other, told):
        found = two_rows(market, person, other)
        self.assertEqual(len({gets[other] for _, gets in told}) == 1, found is None)
        if found is not None:
            self.assertIsInstance(found, tuple)
            self.assertTrue(is_two_rows(market, person, other, found))
        for one, now in told:
            for two, then in told:
                self.assertEqual(now[other] != then[other], is_two_rows(market, person, other, (one, tuple(two))))

    def test_small_markets(self):
        for names in (["a"], ["b", "a"], ["b", "c", "a"]):
            for market in small_markets(names):
                for person in names:
                    self.check(market, person)

    def test_greater_ones(self):
        chance = random.Random(11)
        names = ["a", "b", "c", "d"]
        for _ in range(30):
            wishes = {name: chance.choice(rows_of([other for other in names if other != name])) for name in names}
            self.check(Market(names, wishes), chance.choice(names))

    def test_example(self):
        market = market_n()
        self.assertEqual(["ann", "bo", "cy", "dan", "eve", "fay"], could_get(market=market, person="ann"))
        self.assertEqual(["dan", "eve"], could_get(market, "dan"))
        self.assertEqual(["fay"], could_get(market, "fay"))
        gets = {"ann": "eve", "bo": "cy", "cy": "bo", "dan": "ann", "eve": "dan", "fay": "fay"}
        self.assertEqual(gets, result_by(market=market, person="ann", other="eve"))
        self.assertEqual(list(gets), list(result_by(market, "ann", "eve")))
        self.assertEqual(["eve"], swayed(market=market, person="dan"))
        self.assertTrue(is_two_rows(market=market, person="dan", other="eve", thing=(["eve"], [])))
        self.assertTrue(is_two_rows(market, "dan", "eve", two_rows(market=market, person="dan", other="eve")))
        self.assertIsNone(two_rows(market, "fay", "fay"))
        self.assertIsNone(two_rows(market, "dan", "ann"))
        self.assertIsNone(result_by(market, "dan", "ann"))

    def test_any_object(self):
        for thing in any_objects():
            self.assertIs(False, is_two_rows(market_n(), "dan", "eve", thing))
        for thing in ((["eve"], ["dan"]), (["eve"], []) + ([],), (["eve"], None), (["eve", "eve"], []), (["zed"], []),
                      ("eve", ""), {0: ["eve"], 1: []}, (["eve"], [["eve"]])):
            self.assertIs(False, is_two_rows(market_n(), "dan", "eve", thing))

    def test_wrong(self):
        for thing in any_objects():
            for asked in [could_get, swayed] + [lambda market, person, one=one: one(market, person, None)
                                                for one in OF_OTHER]:
                if not isinstance(thing, Market):
                    with self.assertRaises(BadMarket) as caught:
                        asked(thing, None)
                    self.assertIs(thing, caught.exception.thing)
                if thing != "ann":
                    with self.assertRaises(NoPerson) as caught:
                        asked(market_n(), thing)
                    self.assertIs(thing, caught.exception.thing)
            for asked in OF_OTHER:
                if thing != "ann":
                    with self.assertRaises(NoPerson) as caught:
                        asked(market_n(), "bo", thing)
                    self.assertIs(thing, caught.exception.thing)

    def test_sixty_by_turns(self):
        began = time.time()
        names = crowd(60)
        chance = random.Random(12)
        market = Market(names, {name: chance.sample([other for other in names if other != name], 40) for name in names})
        told = [(could_get(market, name), two_rows(market, name, names[5])) for name in names]
        for name, (could, rows) in list(zip(names, told))[::-1]:
            self.assertEqual(could, could_get(market, name))
            self.assertEqual(rows, two_rows(market, name, names[5]))
            self.assertEqual(rows is not None, names[5] in could if name != names[5] else len(could) > 1)
            if rows is not None:
                self.assertTrue(is_two_rows(market, name, names[5], rows))
        for other in names:
            self.assertEqual(other in told[7][0], result_by(market, names[7], other) is not None)
        self.assertLess(time.time() - began, 20)

    def test_told_anew(self):
        could_get(market_n(), "dan").append("x")
        swayed(market_n(), "dan").append("x")
        self.assertEqual((["dan", "eve"], ["eve"]), (could_get(market_n(), "dan"), swayed(market_n(), "dan")))
        one, two = two_rows(market_n(), "dan", "dan")
        self.assertIsNot(one, two)
        one.append("x")
        two.append("x")
        self.assertTrue(is_two_rows(market_n(), "dan", "dan", two_rows(market_n(), "dan", "dan")))


if __name__ == "__main__":
    unittest.main()
