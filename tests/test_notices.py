"""Point [9]: notices."""

import unittest

from examples import any_objects, market_n, notice_n, notice_p, notice_s

from swaphouse.errors import BadMarket, BadNeeds, BadRule
from swaphouse.markets import Market
from swaphouse.notices import Notice

AB = Market(["a", "b"], {"a": ["b"]})


def wrong_needs(case, rule, market, needs):
    with case.assertRaises(BadNeeds) as caught:
        Notice(rule, market, needs)
    return caught.exception.index


class TestNotices(unittest.TestCase):
    def test_ordinary(self):
        notice = Notice(rule="pairs", market=AB, needs=("b", "a"))
        self.assertEqual("pairs", notice.rule())
        self.assertEqual(AB, notice.market())
        self.assertEqual(["b", "a"], notice.needs())
        self.assertEqual([], Notice("shares", AB, ()).needs())
        self.assertEqual([], Notice("pairs", Market([], {}), []).needs())

    def test_bad_rule(self):
        for thing in any_objects() + ["ring", "Rings", ["rings"]]:
            if thing not in ("rings", "pairs", "shares"):
                with self.assertRaises(BadRule) as caught:
                    Notice(thing, None, None)
                self.assertIs(thing, caught.exception.thing)

    def test_bad_market(self):
        for thing in any_objects():
            if not isinstance(thing, Market):
                with self.assertRaises(BadMarket) as caught:
                    Notice("pairs", thing, None)
                self.assertIs(thing, caught.exception.thing)

    def test_bad_needs(self):
        for thing in any_objects():
            if not isinstance(thing, (list, tuple)):
                self.assertEqual(0, wrong_needs(self, "pairs", AB, thing))
                self.assertEqual(0, wrong_needs(self, "rings", AB, thing))
        self.assertEqual(0, wrong_needs(self, "rings", AB, ["a", "b"]))
        self.assertEqual(0, wrong_needs(self, "shares", AB, [None]))
        self.assertEqual(0, wrong_needs(self, "pairs", AB, []))
        self.assertEqual(1, wrong_needs(self, "pairs", AB, ["b"]))
        self.assertEqual(1, wrong_needs(self, "pairs", AB, ["b", "c"]))
        self.assertEqual(1, wrong_needs(self, "pairs", AB, ["b", "b"]))
        self.assertEqual(2, wrong_needs(self, "pairs", AB, ["b", "a", "a"]))
        self.assertEqual(2, wrong_needs(self, "pairs", AB, ["b", "a", []]))
        self.assertEqual(0, wrong_needs(self, "pairs", AB, [["b"]]))
        self.assertEqual(0, wrong_needs(self, "pairs", Market([], {}), ["a"]))

    def test_copies(self):
        needs = ["b", "a"]
        notice = Notice("pairs", AB, needs)
        needs.pop()
        notice.needs().pop()
        notice.market().people().pop()
        self.assertEqual(Notice("pairs", AB, ["b", "a"]), notice)
        self.assertEqual(["b", "a"], notice.needs())

    def test_equality(self):
        self.assertTrue(notice_n() == Notice("rings", market_n(), []))
        self.assertFalse(notice_n() == Notice("shares", market_n(), []))
        self.assertFalse(Notice("rings", AB, []) == Notice("rings", Market(["a", "b"], {}), []))
        self.assertFalse(Notice("pairs", AB, ["a", "b"]) == Notice("pairs", AB, ["b", "a"]))
        for thing in any_objects() + [market_n(), ("rings", market_n(), [])]:
            self.assertFalse(notice_n() == thing)
            self.assertTrue(thing != notice_n())
        self.assertFalse(notice_p() == notice_s())


if __name__ == "__main__":
    unittest.main()
