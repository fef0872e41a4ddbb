"""Points [96], [97], [100]: what rings tell, and a market that fits or a turn."""

import random
import time
import unittest

from examples import any_objects, ascends, check_anew, check_indexes, crowd, market_n, refused, turned_dict
from knowntrials import all_fitting, fits_by_trial, markets_of, random_known, turns_by_trial
from sharetrials import random_market

from swaphouse.errors import BadKnown, BadPapers, BadPeople
from swaphouse.known import fitting, known_by, turn
from swaphouse.markets import Market
from swaphouse.rings import firm_allotment, rounds

PEOPLE_CASES = [(["ann", "ann"], 1), (["x y"], 0), (["ann", "rule"], 1), (["ann", None], 1), ([["ann"]], 0), (("a", "b", "a"), 2), ([0], 0)]
BAD_KNOWN = [{"zed": []}, {"ann": [("ann", "ann")]}, {"ann": [("ann",)]}, {"ann": [("ann", "zed")]}, {"ann": "ann"}, {"ann": [None]},
             {"ann": [("bo", "ann"), ("bo", "ann", "cy")]}, {0: []}, {"ann": {}}, {"ann": [(["bo"], "ann")]}, [("ann", [])], {"ann": ["bo"]},
             {"bo": [("ann", "bo"), ("cy", "cy")]}, {"ann": [{"bo": 1, "cy": 2}]}]


def rings_in(market):
    return [ring for told in rounds(market) for ring in told]


def known_by_trial(people, papers):
    """By the words of [96]."""
    told = {name: [] for name in people}
    for paper in papers:
        for at, ring in enumerate(paper):
            for place, name in enumerate(ring):
                gets = (list(ring) + [ring[0]])[place + 1]
                told[name] += [(gets, other) for later in paper[at:] for other in later if other != gets]
    return {name: sorted(set(told[name])) for name in sorted(told)}


class TestKnown(unittest.TestCase):
    def check(self, people, known):
        market = fitting(people, known)
        told = turn(people, known)
        self.assertEqual(1, [market, told].count(None))
        turns = [(name, rings[0]) for name in sorted(people) for rings in [turns_by_trial(people, known.get(name, []))] if rings]
        self.assertEqual(turns[0] if turns else None, told)
        if market is not None:
            self.assertEqual(list(people), market.people())
            self.assertTrue(fits_by_trial(market, known))

    def test_just_one(self):
        chance = random.Random(221)
        for _ in range(900):
            names = chance.sample("fbdaec", chance.randint(0, 5))
            self.check(names, random_known(chance, names, chance.choice([2, 5, 8]), chance.random() < 0.5))

    def test_all_that_fit(self):
        chance = random.Random(222)
        for _ in range(60):
            known = random_known(chance, ["b", "c", "a"], 3, chance.random() < 0.3)
            fine = [market for market in markets_of(("b", "c", "a")) if fits_by_trial(market, known)]
            told = fitting(["b", "c", "a"], known)
            self.assertEqual(told is not None, bool(fine))
            self.assertTrue(told is None or told in fine)
            self.assertEqual(len(fine), len(all_fitting(["b", "c", "a"], known)))

    def test_first_of_the_shortest(self):
        names = ["a", "b", "c", "d", "e"]
        pairs = [("a", "b"), ("b", "c"), ("c", "a"), ("d", "e"), ("e", "d"), ("b", "e"), ("e", "b")]
        self.assertEqual(("c", ["b", "e"]), turn(names, {"d": [("a", "b"), ("b", "a")], "c": pairs, "a": pairs[:2]}))
        self.assertEqual(("a", ["a", "b", "c"]), turn(names[::-1], {"a": pairs[:3] + [("c", "d"), ("d", "a")]}))

    def test_known_by(self):
        chance = random.Random(223)
        for _ in range(100):
            people = chance.sample("fbdaec", chance.randint(0, 6))
            markets = [random_market(chance, people, chance.choice([0.3, 0.7, 1])) for _ in range(chance.randint(0, 3))]
            papers = [rings_in(market)[:chance.randint(0, 6)] for market in markets]
            told = known_by(people, papers)
            self.assertEqual(known_by_trial(people, papers), told)
            self.assertTrue(ascends(told) and all(ascends(pairs) for pairs in told.values()))

    def test_known_by_fits(self):
        """Each market fits what its rings tell, and what is told gives the same again."""
        for market in markets_of(("b", "c", "a"))[::3]:
            known = known_by(market.people(), [rings_in(market)])
            self.assertTrue(fits_by_trial(market, known))
            self.assertEqual(firm_allotment(market), firm_allotment(fitting(market.people(), known)))

    def test_example(self):
        known = known_by(people=market_n().people(), papers=[rings_in(market_n())])
        self.assertEqual([("eve", "dan"), ("eve", "fay")], known["dan"])
        self.assertEqual([("cy", other) for other in ("ann", "bo", "dan", "eve", "fay")], known["ann"])
        self.assertFalse(any("bo" in pair for pair in known["eve"]))
        self.assertEqual([], known["fay"])
        self.assertTrue(fits_by_trial(fitting(people=market_n().people(), known=known), known))
        self.assertIsNone(turn(people=market_n().people(), known=known))

    def test_edges(self):
        self.assertEqual(({}, Market([], {}), None), (known_by([], []), fitting([], {}), turn((), {})))
        self.assertEqual({"a": []}, known_by(["a"], [[["a"]], [], ()]))
        self.assertEqual({"a": [("b", "a")], "b": [("a", "b")]}, known_by(["b", "a"], [[["a", "b"]], ((("a", "b"),))]))
        self.assertEqual(Market(["a"], {}), fitting(["a"], {"a": []}))
        self.assertEqual(("a", ["a", "b"]), turn(["b", "a"], {"a": (["b", "a"], ("a", "b"))}))
        # Papers of unlike markets may turn.
        known = known_by(["a", "b"], [[["a", "b"]], [["a"], ["b"]]])
        self.assertEqual((None, ("a", ["a", "b"])), (fitting(["a", "b"], known), turn(["a", "b"], known)))

    def test_wrong(self):
        for function in (known_by, fitting, turn):
            check_indexes(self, BadPeople, lambda thing: function(thing, None), PEOPLE_CASES)
        names = ["cy", "ann", "bo"]
        cases = [([[["ann"]], [["zed"]]], 1), ([[["bo", "ann"]]], 0), ([[[]]], 0), ([[["ann"]], [["ann"], ["ann", "bo"]]], 1), ([None], 0),
                 ([[["ann", "ann"]]], 0), ([[["ann"], "bo"]], 0), ([["ann"]], 0), ([[], [[["ann"]]]], 1), ([[["ann", 0]]], 0), ([{}], 0),
                 ([[0]], 0), ([[], [None]], 1), ([[{"ann": "ann"}]], 0), ([[["ann"], True]], 0)]
        check_indexes(self, BadPapers, lambda thing: known_by(names, thing), cases)
        for function in (fitting, turn):
            for thing in any_objects() + BAD_KNOWN:
                if thing != {}:
                    self.assertIs(thing, refused(self, BadKnown, function, names, thing).thing)

    def test_told_anew(self):
        names = ["bo", "ann", "cy"]
        known = {"cy": [("bo", "ann")], "ann": [["cy", "bo"], ["bo", "ann"]]}
        check_anew(self, known_by, names, [[["ann", "bo"], ["cy"]]])
        check_anew(self, fitting, names, known)
        check_anew(self, turn, names, {"ann": [("ann", "bo"), ("bo", "ann")]})
        self.assertEqual(fitting(names, known), fitting(tuple(names), turned_dict(known)))
        self.assertEqual(turn(names, {"ann": [("ann", "bo"), ("bo", "ann")], "bo": []}),
                         turn(tuple(names), {"bo": (), "ann": (["ann", "bo"], ["bo", "ann"])}))

    def test_sixty_promptly(self):
        began = time.time()
        chance = random.Random(224)
        names = crowd(60)
        papers = [rings_in(random_market(chance, names, chance.choice([0.1, 0.5, 1]))) for _ in range(60)]
        known = known_by(names, papers)
        self.assertEqual(known_by_trial(names, papers), known)
        self.assertIsNotNone(turn(names, known))
        order = {name: chance.sample(names, 60) for name in names}
        every = {name: [(row[at], row[behind]) for at in range(60) for behind in range(at + 1, 60)] for name, row in order.items()}
        self.assertIsNone(turn(names, every))
        self.assertEqual({name: row[:row.index(name)] for name, row in order.items()}, fitting(names, every).wishes())
        last = {**every, names[-1]: [(row, names[at + 1]) for at, row in enumerate(names[:-1])] + [(names[-1], names[0])]}
        self.assertEqual((names[-1], names), turn(names, last))
        self.assertLess(time.time() - began, 30)


if __name__ == "__main__":
    unittest.main()
