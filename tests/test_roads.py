"""Points [72] to [75]: fewest who would leave, steps, and roads."""

import random
import time
import unittest
from itertools import permutations

from examples import any_objects, ascends, check_anew, check_markets, check_persons, check_things, crowd, notice_o, notice_s, refused, turned_dict
from pairtrials import pairings_by_trial
from sharetrials import (all_small, blocks, firm_by_trial, leaving_by_trial, mates_in_order, parties_by_trial, random_market,
                         rings_in, some_markets, some_with_odd_ring)

from swaphouse.errors import BadPairing, NoPerson, Stays
from swaphouse.firmness import leaving
from swaphouse.markets import Market
from swaphouse.parties import odd_rings
from swaphouse.roads import fewest_leaving, is_road, left_by, road

ALONE = {"ann": None, "bo": None, "cy": None}
ANN_BO = {"ann": "bo", "bo": "ann", "cy": None}


def behind(pairing, one, other):
    """By the words of [73]."""
    told = {name: None if mate in (one, other) else mate for name, mate in pairing.items()}
    return {**told, one: other, other: one}


def is_of(told, pairing):
    """Whether a pairing is of this party, by the words of [74]."""
    for ring in rings_in(told):
        if len(ring) < 3:
            if any((told[name] if told[name] != name else None) != pairing[name] for name in ring):
                return False
        elif sum(pairing[name] is None for name in ring) != 1:
            return False
        elif any(pairing[name] not in (None, told[name]) and told[pairing[name]] != name for name in ring):
            return False
    return True


class Roads:
    """How far all pairings of a market stand from one of a party, by trial."""

    def __init__(self, market):
        self.market = market
        self.pairings = pairings_by_trial(market)
        parties = parties_by_trial(market)
        self.goals = [told for told in self.pairings if any(is_of(one, told) for one in parties)]
        self.far = {tuple(mates_in_order(told)): 0 for told in self.goals}
        far = 0
        while len(self.far) < len(self.pairings):
            far += 1
            more = [told for told in self.pairings if self.key(told) not in self.far
                    and any(self.far.get(self.key(behind(told, *pair))) == far - 1 for pair in leaving_by_trial(market, told))]
            assert more, "no road"
            self.far.update({self.key(told): far for told in more})

    def key(self, pairing):
        return tuple(mates_in_order(pairing))

    def first_road(self, pairing):
        """By the first pair each time that leads nearer."""
        found = []
        while self.far[self.key(pairing)]:
            for pair in leaving_by_trial(self.market, pairing):
                if self.far[self.key(behind(pairing, *pair))] < self.far[self.key(pairing)]:
                    break
            found.append(pair)
            pairing = behind(pairing, *pair)
        return found


class TestRoads(unittest.TestCase):
    def check_roads(self, chance, market):
        roads = Roads(market)
        if not odd_rings(market):
            self.assertEqual(firm_by_trial(market), sorted(roads.goals, key=mates_in_order))
        for pairing in roads.pairings:
            told = road(market, pairing)
            self.assertEqual(roads.first_road(pairing), told)
            self.assertTrue(is_road(market, pairing, told))
            self.assertTrue(is_road(market, turned_dict(pairing), tuple([pair[1], pair[0]] for pair in told)))
            self.assertEqual(pairing in roads.goals, is_road(market, pairing, []))
            self.check_steps(market, pairing)
            self.check_walk(chance, roads, pairing)

    def check_steps(self, market, pairing):
        pairs = leaving_by_trial(market, pairing)
        for one in market.people():
            for other in market.people():
                if (one, other) in pairs or (other, one) in pairs:
                    told = left_by(market, turned_dict(pairing), one, other)
                    self.assertEqual(behind(pairing, one, other), told)
                    self.assertTrue(ascends(told))
                    self.assertTrue(is_road(market, told, road(market, told)))
                else:
                    error = refused(self, Stays, left_by, market, pairing, one, other)
                    self.assertEqual((one, other), (error.one, error.other))

    def check_walk(self, chance, roads, pairing):
        """Any steps are a road just where they end at one of a party."""
        told = []
        now = pairing
        for _ in range(6):
            pairs = leaving_by_trial(roads.market, now)
            if pairs:
                pair = chance.choice(pairs)
                now = behind(now, *pair)
                told.append(pair if chance.random() < 0.5 else list(pair[::-1]))
                self.assertEqual(roads.far[roads.key(now)] == 0, is_road(roads.market, pairing, told))

    def check_fewest(self, market):
        number, pairing = fewest_leaving(market)
        self.assertEqual(number, len(leaving_by_trial(market, pairing)))
        self.assertEqual(min(len(leaving_by_trial(market, told)) for told in pairings_by_trial(market)), number)
        self.assertTrue(ascends(pairing) and number == len(leaving(market, pairing)))
        self.assertEqual(number == 0, not odd_rings(market))
        self.assertGreaterEqual(2 * number, len(odd_rings(market)))

    def test_small_markets(self):
        chance = random.Random(185)
        for market in all_small()[::3] + some_markets(chance, 40, [4, 5]) + some_with_odd_ring(chance, 30, [4, 5]):
            self.check_fewest(market)
            self.check_roads(chance, market)

    def test_six(self):
        chance = random.Random(186)
        for market in some_markets(chance, 4, [6]) + some_with_odd_ring(chance, 4, [6]):
            self.check_fewest(market)
            self.check_roads(chance, market)

    def test_example(self):
        market = notice_o().market()
        number, pairing = fewest_leaving(market=market)
        self.assertEqual((1, 1), (number, len(leaving(market, pairing))))
        self.assertEqual({"ann": None, "bo": "cy", "cy": "bo"}, left_by(market=market, pairing=ANN_BO, one="bo", other="cy"))
        error = refused(self, Stays, left_by, market, ANN_BO, "ann", "cy")
        self.assertEqual(("ann", "cy"), (error.one, error.other))
        self.assertEqual([("ann", "bo")], road(market=market, pairing=ALONE))
        self.assertEqual([], road(market, ANN_BO))
        self.assertTrue(is_road(market=market, pairing=ALONE, thing=[["bo", "ann"], ("cy", "bo")]))
        market = notice_s().market()
        pairing = {**ANN_BO, "dan": None}
        self.assertEqual([("cy", "dan")], road(market, pairing))
        self.assertTrue(is_road(market, pairing, [("bo", "cy"), ("ann", "dan")]))
        self.assertFalse(is_road(market, pairing, [("ann", "dan"), ("bo", "cy")]))

    def test_round(self):
        """Steps that come round, and from a pairing of a party that is not firm."""
        market = notice_o().market()
        round_three = [("bo", "cy"), ("ann", "cy"), ("ann", "bo")]
        now = ANN_BO
        for pair in round_three:
            now = left_by(market, now, *pair)
        self.assertEqual(ANN_BO, now)
        for many in range(4):
            self.assertTrue(is_road(market, ANN_BO, round_three * many))
        self.assertTrue(all(leaving(market, left_by(market, ALONE, *pair)) for pair in permutations(ALONE, 2)))

    def test_edges(self):
        none = Market([], {})
        self.assertEqual(((0, {}), []), (fewest_leaving(none), road(none, {})))
        one_way = Market(["b", "a"], {"b": ["a"]})
        only = {"a": None, "b": None}
        self.assertEqual(((0, only), []), (fewest_leaving(one_way), road(one_way, only)))
        self.assertEqual("b", refused(self, Stays, left_by, one_way, only, "b", "b").other)

    def test_any_object(self):
        market = notice_o().market()
        for thing in any_objects():
            self.assertFalse(is_road(market, ALONE, thing))
            self.assertFalse(is_road(market, ALONE, [("ann", "bo"), thing]))
            self.assertFalse(is_road(market, ALONE, [("ann", thing)]) if thing != "bo" else False)
            self.assertEqual(thing in ([], ()), is_road(market, ANN_BO, thing))
        self.assertFalse(is_road(market, ALONE, [("ann", "bo", "cy")]))
        self.assertFalse(is_road(market, ALONE, [{"ann": 1, "bo": 2}]))

    def test_wrong(self):
        check_markets(self, fewest_leaving, left_by, road, is_road)
        market = notice_o().market()
        wrong = [{"ann": "bo", "bo": "ann"}, {**ALONE, "ann": "bo"}, {**ALONE, "zed": None}, {"ann": "bo", "bo": "cy", "cy": "ann"},
                 list(ANN_BO.items()), {**ALONE, "ann": "ann"}]
        asks = [lambda thing: left_by(market, thing, None, None), lambda thing: road(market, thing), lambda thing: is_road(market, thing, None)]
        for asked in asks:
            check_things(self, BadPairing, asked, lambda thing: False)
            for thing in wrong:
                self.assertIs(thing, refused(self, BadPairing, asked, thing).thing)
        check_persons(self, left_by, market, ANN_BO)
        self.assertEqual("zed", refused(self, NoPerson, left_by, market, ANN_BO, "zed", "zoe").thing)

    def test_told_anew(self):
        for market in (notice_o().market(), notice_s().market()):
            alone = {name: None for name in market.people()}
            check_anew(self, fewest_leaving, market)
            check_anew(self, road, market, alone)
            check_anew(self, left_by, market, alone, "ann", "bo")
            check_anew(self, is_road, market, alone, [["ann", "bo"]])
            self.assertEqual(fewest_leaving(market), fewest_leaving(Market(tuple(market.people()), market.wishes())))

    def test_eight_promptly(self):
        began = time.time()
        chance = random.Random(187)
        markets = [blocks(2)] + [random_market(chance, crowd(8), part) for part in (0.5, 0.8, 1, 1, 1, 1)]
        for market in markets:
            number, pairing = fewest_leaving(market)
            self.assertEqual(number, len(leaving_by_trial(market, pairing)))
            self.assertEqual(number == 0, not odd_rings(market))
            for pairing in chance.sample(pairings_by_trial(market), 10) + [{name: None for name in sorted(market.people())}]:
                self.assertTrue(is_road(market, pairing, road(market, pairing)))
        self.assertLess(time.time() - began, 60)


if __name__ == "__main__":
    unittest.main()
