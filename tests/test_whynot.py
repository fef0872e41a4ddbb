"""Points [85], [86]: why somebody has not what it would like."""

import random
import time
import unittest

from examples import (any_objects, check_anew, check_indexes, check_markets, check_persons, check_things, crowd, market_n, notice_o,
                      notice_p, notice_s, refused, small_markets)
from pairtrials import NEEDS_CASES, large_markets, orders, some_small
from ringtrials import larger_markets
from sharetrials import all_small, blocks, firm_by_trial, random_market, some_markets, two_sides

from swaphouse.audits import audit, result_for
from swaphouse.closedlots import hangs_on
from swaphouse.errors import BadNeeds, NoPerson, NotFirm
from swaphouse.firms import firm_pairings
from swaphouse.markets import Market
from swaphouse.needy import served
from swaphouse.notices import Notice
from swaphouse.noticetexts import notice_text
from swaphouse.papertexts import paper_text
from swaphouse.parties import firm_pairing
from swaphouse.resulttexts import result_text
from swaphouse.rings import firm_allotment, rounds
from swaphouse.serving import is_serve_paper
from swaphouse.whynot import why_left, why_not, why_not_share


class TestWhyNot(unittest.TestCase):
    def check_rings(self, market):
        gets = firm_allotment(market)
        for one in market.people():
            row = market.wants(one) + [one]
            for other in market.people():
                told = why_not(market, one, other)
                if gets[one] == other:
                    self.assertEqual(("has",), told)
                elif other not in row or row.index(other) > row.index(gets[one]):
                    self.assertEqual(("less",), told)
                else:
                    rings = [ring for told in rounds(market) for ring in told if set(ring) <= set(hangs_on(market, other))]
                    self.assertEqual(("gone", rings), told)
                    self.assertFalse(any(one in ring for ring in rings))

    def check_pairs(self, market, needs):
        notice = Notice("pairs", market, needs)
        taken = served(market, needs)
        lines = []
        for name in market.people():
            told = why_left(market, needs, name)
            self.assertEqual(name in taken, told is None)
            if told is not None:
                lot = [one for one in needs[:needs.index(name)] if one in taken] + [name]
                self.assertTrue(is_serve_paper(market, lot, told))
                lines.append((name,) + told)
        paper = ("blocks", lines) if lines else ("rings", [])
        self.assertIsNone(audit(notice_text(notice), result_text(result_for(notice)), paper_text(paper)))

    def check_shares(self, market, pairing):
        for one in market.people():
            row = market.wants(one)
            for other in market.people():
                told = why_not_share(market, pairing, one, other)
                if pairing[one] == other:
                    self.assertEqual(("has",), told)
                elif other not in row or (pairing[one] is not None and row.index(pairing[one]) < row.index(other)):
                    self.assertEqual(("less",), told)
                else:
                    self.assertEqual(("taken", pairing[other]), told)

    def test_rings(self):
        for market in small_markets(["b", "c", "a"]) + larger_markets(random.Random(213), 150, [4, 5, 6]):
            self.check_rings(market)

    def test_pairs(self):
        chance = random.Random(214)
        for market in some_small(chance, 150):
            for needs in orders(chance, market, 2):
                self.check_pairs(market, needs)

    def test_shares(self):
        for market in all_small() + some_markets(random.Random(215), 150, [4, 5]):
            for pairing in firm_by_trial(market):
                self.check_shares(market, pairing)

    def test_example(self):
        self.assertEqual(("gone", [["ann", "cy", "bo"]]), why_not(market=market_n(), person="dan", other="ann"))
        self.assertEqual((("has",), ("less",)), (why_not(market_n(), "dan", "eve"), why_not(market_n(), "fay", "dan")))
        market, needs = notice_p().market(), notice_p().needs()
        self.assertEqual((["bo"], [["dan"], ["eve"]]), why_left(market=market, needs=needs, person="dan"))
        self.assertIsNone(why_left(market, tuple(needs), "ann"))
        market = notice_s().market()
        pairing = {"ann": "bo", "bo": "ann", "cy": "dan", "dan": "cy"}
        self.assertEqual(("taken", "dan"), why_not_share(market=market, pairing=pairing, person="bo", other="cy"))
        self.assertEqual((("has",), ("less",), ("less",)), tuple(why_not_share(market, pairing, "ann", other) for other in ("bo", "dan", "ann")))

    def test_alone(self):
        market = Market(["a", "b"], {"a": ["b"]})
        self.assertEqual(("taken", None), why_not_share(market, {"b": None, "a": None}, "a", "b"))
        self.assertEqual(("less",), why_not_share(market, {"a": None, "b": None}, "b", "a"))
        self.assertEqual(("less",), why_not_share(market, {"a": None, "b": None}, "a", "a"))
        only = Market(["a"], {})
        self.assertEqual((("has",), ([], [["a"]])), (why_not(only, "a", "a"), why_left(only, ["a"], "a")))

    def test_wrong(self):
        check_markets(self, why_not, why_left, why_not_share)
        check_persons(self, why_not, market_n())
        market, needs = notice_p().market(), notice_p().needs()
        check_indexes(self, BadNeeds, lambda thing: why_left(market, thing, None), NEEDS_CASES)
        check_persons(self, why_left, market, needs)
        market = notice_s().market()
        first = {"ann": "bo", "bo": "ann", "cy": "dan", "dan": "cy"}
        check_persons(self, why_not_share, market, first)
        wrong = [dict.fromkeys(first), {**first, "ann": None}, {**first, "zed": None}, list(first.items())]
        for asked in (lambda thing: why_not_share(market, thing, None, None), lambda thing: why_not_share(notice_o().market(), thing, None, None)):
            for thing in any_objects() + wrong:
                self.assertIs(thing, refused(self, NotFirm, asked, thing).pairing)
        check_things(self, NoPerson, lambda thing: why_not_share(market, first, "ann", thing), lambda thing: thing == "ann")

    def test_told_anew(self):
        check_anew(self, why_not, market_n(), "dan", "ann")
        check_anew(self, why_left, notice_p().market(), notice_p().needs(), "dan")
        market = notice_s().market()
        check_anew(self, why_not_share, market, firm_pairing(market), "bo", "cy")

    def test_promptly(self):
        began = time.time()
        chance = random.Random(216)
        for part in (0.05, 0.3, 1):
            market = random_market(chance, crowd(60), part)
            for one in market.people()[:10]:
                self.assertTrue(all(why_not(market, one, other)[0] in ("has", "less", "gone") for other in market.people()))
        for market in large_markets(chance, 40):
            self.check_pairs(market, chance.sample(market.people(), len(market.people())))
        for market in (blocks(2), two_sides(20)):
            self.check_shares(market, firm_pairing(market))
        self.assertEqual(4, len(firm_pairings(blocks(2))))
        self.assertLess(time.time() - began, 40)


if __name__ == "__main__":
    unittest.main()
