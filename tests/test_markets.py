"""Points [3], [7]: names and markets."""

import unittest

from examples import NAMES_N, WISHES_N, any_objects, market_n

from swaphouse.alike import Steps
from swaphouse.errors import BadPeople, BadWishes, NoPerson
from swaphouse.markets import Market
from swaphouse.notices import Notice

WORDS = ["rule", "person", "wants", "needs", "gets", "with", "ring", "out", "without", "lot", "watch", "hold"]


def wrong_people(case, people, wishes=None):
    with case.assertRaises(BadPeople) as caught:
        Market(people, wishes)
    return caught.exception.index


class TestNames(unittest.TestCase):
    def test_names(self):
        for name in ["a", "z9", "abcdefgh", "a1234567", "rules", "rul", "holdx", "without1", "lots", "w0th"]:
            self.assertEqual([name], Market([name], {}).people())

    def test_no_names(self):
        wrong = ["", "A", "9a", "abcdefghi", "a b", "a_", "a-b", "aB", "\u00e4", "a\u00b2", "a\uff11", "a\n", " a"]
        for thing in wrong + WORDS:
            self.assertEqual(0, wrong_people(self, [thing], {}), thing)


class TestMarkets(unittest.TestCase):
    def test_ordinary(self):
        market = Market(["bo", "ann"], {"bo": ["ann"]})
        self.assertEqual(["bo", "ann"], market.people())
        self.assertEqual({"ann": [], "bo": ["ann"]}, market.wishes())
        self.assertEqual(["ann", "bo"], list(market.wishes()))
        self.assertEqual(["ann"], market.wants("bo"))
        self.assertEqual([], market.wants("ann"))
        self.assertEqual(["cy", "bo"], market_n().wants(person="ann"))

    def test_nobody(self):
        market = Market(people=[], wishes={})
        self.assertEqual([], market.people())
        self.assertEqual({}, market.wishes())

    def test_tuples_for_lists(self):
        market = Market(("ann", "bo"), {"bo": ("ann",)})
        self.assertEqual(Market(["ann", "bo"], {"bo": ["ann"]}), market)
        self.assertIsInstance(market.people(), list)
        self.assertIsInstance(market.wants("bo"), list)

    def test_bad_people(self):
        for thing in any_objects():
            if not isinstance(thing, (list, tuple)):
                self.assertEqual(0, wrong_people(self, thing, {}))
        self.assertEqual(0, wrong_people(self, "ann"))
        self.assertEqual(1, wrong_people(self, ["a", 1, "a"]))
        self.assertEqual(2, wrong_people(self, ["a", "b", "a", None]))
        self.assertEqual(1, wrong_people(self, ("a", ["b"])))
        self.assertEqual(1, wrong_people(self, ["a", Market([], {})]))
        self.assertEqual(60, wrong_people(self, ["p%d" % at for at in range(60)] + ["p0"]))

    def test_bad_wishes(self):
        wrong = [[], None, "a", 0, {"c": []}, {"a": "b"}, {"a": None}, {"a": ["a"]}, {"a": ["b", "b"]}, {"a": ["c"]},
                 {"a": [["b"]]}, {"a": [1]}, {1: []}, {None: ["a"]}, {("a",): []}, {"a": {"b": 1}}, {"a": ["b"], "b": [[]]},
                 {"a": {}}, {True: ["a"]}]
        for thing in wrong:
            with self.assertRaises(BadWishes) as caught:
                Market(["a", "b"], thing)
            self.assertIs(thing, caught.exception.thing)

    def test_people_come_first(self):
        self.assertEqual(0, wrong_people(self, [7], 7))

    def test_no_person(self):
        for thing in any_objects() + ["dann"]:
            if thing not in ("ann",):
                with self.assertRaises(NoPerson) as caught:
                    market_n().wants(thing)
                self.assertIs(thing, caught.exception.thing)

    def test_what_is_passed_is_copied(self):
        people = ["a", "b", "c"]
        wishes = {"a": ["b", "c"], "b": ["c"]}
        market = Market(people, wishes)
        people.append("d")
        wishes["a"].pop()
        wishes["c"] = ["a"]
        self.assertEqual(Market(["a", "b", "c"], {"a": ["b", "c"], "b": ["c"]}), market)

    def test_what_is_passed_stays(self):
        people = ["b", "a"]
        wishes = {"b": ["a"]}
        Market(people, wishes)
        self.assertEqual((["b", "a"], {"b": ["a"]}), (people, wishes))

    def test_what_is_told_is_new(self):
        market = market_n()
        market.people().append("x")
        market.wishes()["ann"].append("x")
        market.wishes()["bo"] = 0
        market.wants("ann").append("x")
        self.assertEqual(NAMES_N, market.people())
        self.assertEqual(WISHES_N, market.wishes())
        told = Market(["a", "b"], {}).wishes()
        self.assertIsNot(told["a"], told["b"])

    def test_equality(self):
        market = Market(["a", "b", "c"], {"a": ["b", "c"]})
        self.assertTrue(market == Market(["a", "b", "c"], {"c": [], "a": ["b", "c"]}))
        self.assertFalse(market != Market(["a", "b", "c"], {"a": ["b", "c"], "b": []}))
        self.assertFalse(market == Market(["b", "a", "c"], {"a": ["b", "c"]}))
        self.assertFalse(market == Market(["a", "b", "c"], {"a": ["c", "b"]}))
        self.assertFalse(market == Market(["a", "b", "c"], {"a": ["b"]}))

    def test_equal_to_nothing_else(self):
        one = Market(["q"], {})
        for thing in any_objects() + [Steps(["q"], {}), Notice("rings", one, []), (["q"], {}), {"q": []}]:
            self.assertFalse(one == thing)
            self.assertTrue(one != thing)
            self.assertFalse(thing == one)


if __name__ == "__main__":
    unittest.main()
