"""Points [98], [100]: sure, or two worlds."""

import random
import time
import unittest
from itertools import permutations

from examples import any_objects, ascends, check_anew, check_indexes, crowd, market_n, refused, turned_dict
from knowntrials import all_fitting, fits_by_trial, random_known
from sharetrials import random_market
from test_known import BAD_KNOWN, PEOPLE_CASES, rings_in

from swaphouse.errors import BadKnown, BadPeople, TurnsRound
from swaphouse.known import known_by, turn
from swaphouse.markets import Market
from swaphouse.rings import firm_allotment, is_firm
from swaphouse.sure import are_two_worlds, sure_rings, sure_things, two_worlds

FUNCTIONS = [sure_rings, sure_things, two_worlds, lambda people, known: are_two_worlds(people, known, None)]


def closure(pairs):
    """All pairs that follow from these."""
    found = {tuple(pair) for pair in pairs}
    while True:
        more = {(one, three) for one, two in found for other, three in found if two == other} - found
        if not more:
            return found
        found |= more


def rings_by_trial(people, known):
    """By the words of [98]: the rings that leave, round by round."""
    better = {name: closure(known.get(name, [])) for name in people}
    left = sorted(people)
    told = []
    while True:
        points = {name: [thing for thing in left if not any((one, thing) in better[name] for one in left)] for name in left}
        only = {name: things[0] for name, things in points.items() if len(things) == 1}
        rings = []
        for start in sorted(only):
            ring = [start]
            while ring[-1] in only and only[ring[-1]] not in ring:
                ring.append(only[ring[-1]])
            if only.get(ring[-1]) == start and start == min(ring):
                rings.append(ring)
        if not rings:
            return told
        told += sorted(rings)
        left = [name for name in left if not any(name in ring for ring in rings)]


class TestSure(unittest.TestCase):
    def check(self, people, known):
        rings = sure_rings(people, known)
        self.assertEqual(rings_by_trial(people, known), rings)
        things = {name: (ring + ring)[at + 1] for ring in rings for at, name in enumerate(ring)}
        self.assertEqual(things, sure_things(people, known))
        self.assertTrue(ascends(sure_things(people, known)))
        worlds = two_worlds(people, known)
        self.assertEqual(len(things) == len(people), worlds is None)
        if worlds is not None:
            self.check_worlds(people, known, worlds)
        return things

    def check_worlds(self, people, known, worlds):
        person, one, other = worlds
        self.assertTrue(fits_by_trial(one, known) and fits_by_trial(other, known) if len(people) < 7 else True)
        self.assertEqual(list(people), one.people())
        self.assertNotEqual(firm_allotment(one)[person], firm_allotment(other)[person])
        self.assertTrue(are_two_worlds(people, known, worlds) and are_two_worlds(tuple(people), turned_dict(known), [person, other, one]))

    def test_small(self):
        """What is sure holds in all markets that fit; whoever does not leave gets unlike things."""
        chance = random.Random(225)
        for _ in range(60):
            people = chance.sample("cab", chance.randint(0, 3))
            known = random_known(chance, people, 5, False)
            things = self.check(people, known)
            told = [firm_allotment(market) for market in all_fitting(people, known)]
            self.assertEqual(sorted(things), [name for name in sorted(people) if len({gets[name] for gets in told}) == 1 and name in things])
            self.assertTrue(all(gets[name] == thing for gets in told for name, thing in things.items()))
            if len(things) < len(people):
                self.assertTrue(any(len({gets[name] for gets in told}) > 1 for name in people))

    def test_larger(self):
        chance = random.Random(226)
        for _ in range(400):
            people = chance.sample("fbdaec", chance.randint(4, 6))
            self.check(people, random_known(chance, people, chance.choice([5, 10, 20]), False))

    def test_from_rings(self):
        """What the rings of one market tell makes all of it sure."""
        chance = random.Random(227)
        for _ in range(60):
            people = chance.sample("fbdaec", chance.randint(1, 6))
            market = random_market(chance, people, chance.choice([0.3, 0.7, 1]))
            known = known_by(people, [rings_in(market)])
            self.assertTrue(is_firm(market, sure_things(people, known)))
            self.assertIsNone(two_worlds(people, known))

    def test_are_two_worlds(self):
        """Of any two markets, just where both fit and the person gets unlike things."""
        chance = random.Random(228)
        people = ["b", "a", "c"]
        for _ in range(12):
            known = random_known(chance, people, 3, False)
            markets = chance.sample(all_fitting(people, {}), 12) + all_fitting(people, known)[:6] + [Market(["a", "b"], {})]
            for one in markets:
                for other in markets:
                    for person in people:
                        fine = len(one.people()) == len(other.people()) == 3 and fits_by_trial(one, known) and fits_by_trial(other, known) \
                            and firm_allotment(one)[person] != firm_allotment(other)[person]
                        self.assertEqual(fine, are_two_worlds(people, known, (person, one, other)))

    def test_example(self):
        people = ["ann", "bo", "cy", "dan"]
        known = {one: [(other, name) for name in people if name != other] for one, other in (("ann", "bo"), ("bo", "ann"))}
        self.assertEqual({"ann": "bo", "bo": "ann"}, sure_things(people=people, known=known))
        self.assertEqual([["ann", "bo"]], sure_rings(people=people, known=known))
        worlds = two_worlds(people=people, known=known)
        self.assertIn(worlds[0], ("cy", "dan"))
        parted = ("cy", Market(people, {"ann": ["bo"], "bo": ["ann"]}),
                  Market(people[::-1], {"ann": ["bo"], "bo": ["ann"], "cy": ["dan"], "dan": ["cy"]}))
        self.assertTrue(are_two_worlds(people=people, known=known, thing=parted))
        self.assertFalse(are_two_worlds(people, known, ("ann",) + parted[1:]))
        known = known_by(market_n().people(), [rings_in(market_n())])
        self.assertEqual(firm_allotment(market_n()), sure_things(market_n().people(), known))
        self.assertEqual([["ann", "cy", "bo"], ["dan", "eve"], ["fay"]], sure_rings(market_n().people(), known))

    def test_through_gone_things(self):
        """b stands ahead of c by a alone, which has left."""
        people = ["a", "b", "c"]
        known = {"a": [("a", "b"), ("a", "c")], "b": [("b", "a"), ("a", "c")], "c": [("b", "c")]}
        self.assertEqual([["a"], ["b"], ["c"]], sure_rings(people, known))
        self.assertEqual([["a"]], sure_rings(people, {**known, "b": [("b", "a")]}))

    def test_edges(self):
        self.assertEqual(([], {}, None), (sure_rings([], {}), sure_things([], {}), two_worlds([], {})))
        self.assertEqual(([["a"]], {"a": "a"}, None), (sure_rings(["a"], {}), sure_things(["a"], {}), two_worlds(["a"], {"a": []})))
        self.assertEqual(([], {}), (sure_rings(["b", "a"], {}), sure_things(["b", "a"], {})))
        self.check_worlds(["b", "a"], {}, two_worlds(["b", "a"], {}))

    def test_any_object(self):
        people = ["a", "b"]
        worlds = two_worlds(people, {})
        for thing in any_objects():
            self.assertFalse(are_two_worlds(people, {}, thing))
            for at in range(3):
                told = list(worlds)
                told[at] = thing
                if not (at == 0 and thing in ("a", "b")) and not isinstance(thing, Market):
                    self.assertFalse(are_two_worlds(people, {}, told))
        self.assertFalse(are_two_worlds(people, {}, worlds + (1,)))
        self.assertFalse(are_two_worlds(people, {}, (worlds[0], worlds[1], worlds[1])))

    def test_wrong(self):
        names = ["cy", "ann", "bo"]
        for function in FUNCTIONS:
            check_indexes(self, BadPeople, lambda thing: function(thing, None), PEOPLE_CASES)
            for thing in any_objects() + BAD_KNOWN:
                if thing != {}:
                    self.assertIs(thing, refused(self, BadKnown, function, names, thing).thing)
            for pairs in permutations([("ann", "bo"), ("bo", "cy"), ("cy", "ann"), ("bo", "ann")], 3):
                known = {"cy": list(pairs), "bo": list(pairs)}
                told = turn(names, known)
                if told is not None:
                    error = refused(self, TurnsRound, function, names, known)
                    self.assertEqual(told, (error.person, error.ring))
                    error.ring.append("x")
                    self.assertEqual(told[1], refused(self, TurnsRound, function, names, known).ring)

    def test_told_anew(self):
        names = ["bo", "ann", "cy"]
        known = {"cy": [("bo", "ann")], "ann": [["bo", "cy"], ["bo", "ann"]], "bo": [("ann", "bo"), ("ann", "cy")]}
        for function in (sure_rings, sure_things, two_worlds):
            check_anew(self, function, names, known)
            self.assertEqual(function(names, known), function(tuple(names), turned_dict(known)))
        self.assertEqual(two_worlds(names, {}), two_worlds(tuple(names), {"ann": ()}))

    def test_sixty_promptly(self):
        began = time.time()
        chance = random.Random(229)
        names = crowd(60)
        for part in (0, 0.02, 0.2, 0.6):
            order = {name: chance.sample(names, 60) for name in names}
            known = {name: [(row[at], row[behind]) for at in range(60) for behind in range(at + 1, 60) if chance.random() < part]
                     for name, row in order.items()}
            self.check(names, known)
        market = Market(names, {name: names[at + 1:] for at, name in enumerate(names)})
        known = known_by(names, [rings_in(market)] * 60)
        self.assertEqual(firm_allotment(market), self.check(names, known))
        self.assertLess(time.time() - began, 60)


if __name__ == "__main__":
    unittest.main()
