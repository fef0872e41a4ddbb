"""Points [48], [50], [51]: rings of three at most."""

import random
import time
import unittest
from itertools import permutations

from examples import any_objects, ascends, check_anew, check_markets, check_things, market_n, turned_dict
from ringtrials import allotments, is_in_threes, larger_markets, many_served, pay_by_trial, some_markets

from swaphouse.anyrings import most_served
from swaphouse.errors import BadNumber
from swaphouse.markets import Market
from swaphouse.mostpairs import most_pairs
from swaphouse.threes import is_threes_paper, most_in_threes, threes_paper, threes_served

FOUR = Market(["a", "b", "c", "d"], {"d": ["a"], "a": ["b"], "b": ["c"], "c": ["d"]})
PAPER = ("cases", "a", [("heights", {"b": 0, "c": 1, "d": 2})])


def rings_by_trial(market, left, person):
    """All rings of two or three people left through a person, ascending."""
    rows = market.wishes()
    found = []
    for many in (2, 3):
        for ring in permutations(left, many):
            if ring[0] == min(ring) and person in ring and \
                    all(other in rows[one] for one, other in zip(ring, ring[1:] + ring[:1])):
                found.append(list(ring))
    return sorted(found)


def is_paper_by_trial(market, left, number, paper):
    """By the words of [48], of what has the form of a paper."""
    if paper[0] == "heights":
        among = Market(left, {one: [other for other in market.wants(one) if other in left] for one in left})
        return set(paper[1]) == set(left) and pay_by_trial(among, [], paper[1]) < number
    _, person, papers = paper
    rings = rings_by_trial(market, left, person) + [[person]]
    if person not in left or len(rings) != len(papers):
        return False
    return all(is_paper_by_trial(market, [one for one in left if one not in ring],
                                 number - len(ring) if len(ring) > 1 else number, told)
               for ring, told in zip(rings, papers))


def parts_of(paper):
    """All papers in a paper, itself too."""
    return [paper] + [part for one in (paper[2] if paper[0] == "cases" else []) for part in parts_of(one)]


def turned_about(paper):
    """The same paper of lists for tuples, tuples for lists, dicts the other way about."""
    if paper[0] == "heights":
        return ["heights", turned_dict(paper[1])]
    return ["cases", paper[1], tuple(turned_about(one) for one in paper[2])]


def spoiled(paper):
    """Papers with one thing otherwise."""
    if paper[0] == "heights":
        told = [("heights", {**paper[1], name: 9}) for name in paper[1]]
        told += [("heights", {name: paper[1][name] for name in paper[1] if name != one}) for one in paper[1]]
        return told + [("heights", {**paper[1], "zed": 0}), ("height", paper[1]), ("cases", paper[1])]
    told = [("cases", paper[1], paper[2] + paper[2][-1:]), ("cases", paper[1], paper[2][:-1]), ("cases", "zed", paper[2]),
            ("cases", paper[1], paper[2][::-1]), ("cases", None, paper[2])]
    for at, one in enumerate(paper[2]):
        told += [("cases", paper[1], paper[2][:at] + [part] + paper[2][at + 1:]) for part in spoiled(one)]
    return told


class TestThrees(unittest.TestCase):
    def check(self, market, number, most):
        deal, paper = threes_served(market, number), threes_paper(market, number)
        self.assertEqual(1, [deal, paper].count(None))
        self.assertEqual(most >= number, paper is None)
        if deal is not None:
            rows = market.wishes()
            self.assertTrue(ascends(deal) and is_in_threes(deal) and set(deal) == set(rows) == set(deal.values()))
            self.assertTrue(all(thing == name or thing in rows[name] for name, thing in deal.items()))
            self.assertGreaterEqual(many_served(deal), number)
        else:
            self.assertTrue(is_threes_paper(market, number, paper))
            self.assertTrue(is_threes_paper(market, number, turned_about(paper)))
            self.assertTrue(is_paper_by_trial(market, sorted(market.people()), number, paper))
            self.assertTrue(all(isinstance(part, tuple) for part in parts_of(paper)))
            self.assertTrue(all(ascends(part[1]) for part in parts_of(paper) if part[0] == "heights"))
            self.assertFalse(is_threes_paper(market, most, paper))

    def test_small_markets(self):
        for market in some_markets() + larger_markets(random.Random(121), 150, [5, 6]):
            most = max(many_served(deal) for deal in allotments(market) if is_in_threes(deal))
            self.assertEqual(most, most_in_threes(market))
            for number in range(len(market.people()) + 2):
                self.check(market, number, most)
            self.assertTrue(2 * most_pairs(market) <= most <= most_served(market, []))

    def test_spoiled_papers(self):
        chance = random.Random(122)
        for market in [FOUR] + some_markets()[-20:] + larger_markets(chance, 20, [4, 5]):
            for number in range(1, len(market.people()) + 2):
                paper = threes_paper(market, number)
                for thing in spoiled(paper)[::3] if paper is not None else []:
                    good = thing[0] == "heights" or len(thing) == 3 and thing[0] == "cases"
                    try:
                        good = good and is_paper_by_trial(market, sorted(market.people()), number, thing)
                    except (KeyError, IndexError, TypeError, ValueError):
                        good = False
                    self.assertIs(good, is_threes_paper(market, number, thing))

    def test_another_person(self):
        """Cases of whichever person, though heights would do."""
        rows = {"a": ["b", "c"], "b": ["a"], "c": ["b"], "d": []}
        market = Market(["a", "b", "c", "d"], rows)
        heights = [("heights", dict.fromkeys(names, 0)) for names in (["d"], ["c", "d"], ["a", "c", "d"])]
        self.assertEqual([["a", "b"], ["a", "c", "b"]], rings_by_trial(market, list("abcd"), "b"))
        paper = ("cases", "b", [heights[1], heights[0], heights[2]])
        self.assertFalse(is_threes_paper(market, 3, paper))
        self.assertTrue(is_threes_paper(market, 4, paper))
        self.assertFalse(is_threes_paper(market, 4, ("cases", "b", [heights[0], heights[1], heights[2]])))
        again = ("cases", "d", [paper])
        self.assertFalse(is_threes_paper(market, 4, again))
        less = [("heights", dict.fromkeys(names, 0)) for names in ([], ["c"], ["a", "c"])]
        self.assertTrue(is_threes_paper(market, 4, ("cases", "d", [("cases", "b", [less[1], less[0], less[2]])])))

    def test_example(self):
        self.assertEqual(0, most_in_threes(market=FOUR))
        self.assertEqual(4, most_served(FOUR, []))
        self.assertTrue(is_threes_paper(market=FOUR, number=1, thing=PAPER))
        self.assertTrue(is_threes_paper(FOUR, 1, threes_paper(market=FOUR, number=1)))
        self.assertEqual({"a": "a", "b": "b", "c": "c", "d": "d"}, threes_served(market=FOUR, number=0))
        self.assertIsNone(threes_served(FOUR, 1))
        self.assertEqual(5, most_in_threes(market_n()))
        self.assertIsNone(threes_paper(market_n(), 5))

    def test_edges(self):
        none = Market([], {})
        self.assertEqual((0, {}, None), (most_in_threes(none), threes_served(none, 0), threes_served(none, 1)))
        self.assertTrue(is_threes_paper(none, 1, ("heights", {})))
        self.assertFalse(is_threes_paper(none, 0, ("heights", {})))
        self.assertFalse(is_threes_paper(none, 1, ("cases", None, [("heights", {})])))
        self.assertIsNone(threes_served(none, 10 ** 8))
        one_way = Market(["b", "a"], {"b": ["a"]})
        self.assertEqual(("heights", {"a": 1, "b": 0}), threes_paper(one_way, 1))

    def test_any_object(self):
        wrong = [("cases", "a", []), ("cases", "a", [PAPER]), ("cases", "a", None), ("cases", ["a"], [PAPER[2][0]]), PAPER[:2],
                 ("heights", {}), ("heights", None), (["heights"], {}), ("height", {"a": 1, "b": 1, "c": 1, "d": 1}), ("heights", {"a": 0, "b": 1, "c": 2, "d": 3}),
                 ("heights", {"a": False, "b": 0, "c": 0, "d": 0}), {0: "cases", 1: "a", 2: PAPER[2]}, PAPER + (0,),
                 ("cases", "a", {0: PAPER[2][0]}), ("case",) + PAPER[1:], (["cases"],) + PAPER[1:], ("cases", "a", [("heights", {"b": 0, "c": 1, "d": "2"})])]
        for thing in any_objects() + wrong:
            self.assertIs(False, is_threes_paper(FOUR, 1, thing))

    def test_wrong(self):
        check_markets(self, most_in_threes, threes_served, threes_paper, is_threes_paper)
        for function in (threes_served, threes_paper, lambda market, number: is_threes_paper(market, number, None)):
            check_things(self, BadNumber, lambda thing: function(FOUR, thing),
                         lambda thing: isinstance(thing, int) and not isinstance(thing, bool) and thing >= 0)

    def test_told_anew(self):
        for number in (1, 4):
            check_anew(self, threes_paper, FOUR, number)
        check_anew(self, threes_served, market_n(), 4)
        market = larger_markets(random.Random(123), 1, [7])[0]
        for number in range(9):
            if threes_paper(market, number):
                check_anew(self, threes_paper, market, number)

    def test_eight_promptly(self):
        began = time.time()
        for market in larger_markets(random.Random(124), 150, [8]) + [Market(list("abcdefgh"), {
                name: [other for other in "abcdefgh" if other != name] for name in "abcdefgh"})]:
            most = most_in_threes(market)
            for number in range(9):
                self.check(market, number, most)
        self.assertLess(time.time() - began, 30)


if __name__ == "__main__":
    unittest.main()
