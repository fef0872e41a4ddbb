"""Point [18]: closed lots."""

import unittest
from itertools import product

from examples import any_objects, crowd, market_n, rows_of, small_markets, with_row

from swaphouse.closedlots import hangs_on
from swaphouse.errors import BadMarket, NoPerson
from swaphouse.markets import Market
from swaphouse.rings import firm_allotment, rounds


def lot_by_trial(market, person):
    rings = {one: ring for rings in rounds(market) for ring in rings for one in ring}
    gets = firm_allotment(market)
    lot = {person}
    grown = True
    while grown:
        more = {other for one in lot for other in rings[one]}
        more |= {thing for one in lot for thing in market.wants(one) + [one]
                 if (market.wants(one) + [one]).index(thing) < (market.wants(one) + [one]).index(gets[one])}
        grown = not more <= lot
        lot |= more
    return sorted(lot)


class TestClosedLots(unittest.TestCase):
    def test_example(self):
        self.assertEqual(["ann", "bo", "cy", "dan", "eve"], hangs_on(market=market_n(), person="dan"))
        self.assertEqual(["ann", "bo", "cy"], hangs_on(market_n(), "bo"))
        self.assertEqual(["ann", "bo", "cy", "fay"], hangs_on(market_n(), "fay"))

    def test_small_markets(self):
        for names in (["a"], ["b", "a"], ["c", "a", "b"]):
            for market in small_markets(names):
                for person in names:
                    self.assertEqual(lot_by_trial(market, person), hangs_on(market, person))

    def test_whatever_all_others_wish(self):
        for market in small_markets(["a", "b", "c"]):
            for person in ["a", "b", "c"]:
                lot = hangs_on(market, person)
                gets = firm_allotment(market)
                others = [name for name in market.people() if name not in lot]
                choices = [rows_of([other for other in market.people() if other != name]) for name in others]
                for rows in product(*choices):
                    told = firm_allotment(with_row(market, dict(zip(others, rows))))
                    self.assertEqual([gets[name] for name in lot], [told[name] for name in lot])
                rows = {name: [thing for thing in market.wants(name) if thing in lot] for name in lot}
                self.assertEqual({name: gets[name] for name in lot}, firm_allotment(Market(lot, rows)))

    def test_wrong(self):
        for thing in any_objects():
            if not isinstance(thing, Market):
                with self.assertRaises(BadMarket) as caught:
                    hangs_on(thing, None)
                self.assertIs(thing, caught.exception.thing)
            if thing != "ann":
                with self.assertRaises(NoPerson) as caught:
                    hangs_on(market_n(), thing)
                self.assertIs(thing, caught.exception.thing)

    def test_sixty_by_turns(self):
        names = crowd(60)
        market = Market(names, {name: [names[at - 1]] if at else [] for at, name in enumerate(names)})
        for _ in range(2):
            for at, name in enumerate(names):
                self.assertEqual(names[:at + 1], hangs_on(market, name))
        hangs_on(market, "p003").append("x")
        self.assertEqual(names[:4], hangs_on(market, "p003"))


if __name__ == "__main__":
    unittest.main()
