"""Points [6], [28], [29]: the only rule, and functions that are passed."""

import time
import unittest
from itertools import permutations

from examples import any_objects, deals, place, rows_of, small_markets, with_row

from swaphouse.errors import BadPeople, BadRow, NoRule, SwapError
from swaphouse.markets import Market
from swaphouse.onlyrule import is_rule_fault, rule_fault
from swaphouse.rings import firm_allotment

PEOPLE = ([], ["a"], ["a", "b"], ["b", "a"], ["c", "a", "b"])


def keep(market):
    return {name: name for name in market.people()}


def first_come(market):
    """Who is first in order gets what it likes best, and so on: nobody gains by lying, but not all keep their own."""
    left = market.people()
    gets = {}
    for name in market.people():
        row = market.wants(name) + [name]
        gets[name] = min(left, key=lambda thing: row.index(thing) if thing in row else 9)
        left.remove(gets[name])
    return gets


def best_for_first(market):
    """Of all that nobody can be bettered by, what the first likes best: somebody gains by lying."""
    names = market.people()
    fine = [deal for deal in deals(names)
            if all(deal[name] == name or deal[name] in market.wants(name) for name in names)
            and not any(is_better_for_all(market, deal, other) for other in deals(names))]
    return min(fine, key=lambda deal: [place(market, name, deal[name]) for name in names])


def only_at(wrong, told):
    """The firm rule, but for what is told at the one market."""
    return lambda market: told if market == wrong else firm_allotment(market)


def is_better_for_all(market, gets, deal):
    places = [(place(market, name, deal[name]), place(market, name, gets[name])) for name in gets]
    return all(now <= ahead for now, ahead in places) and any(now < ahead for now, ahead in places)


def is_allotment(thing, names):
    return isinstance(thing, dict) and any(thing == deal for deal in deals(names))


def faults_by_trial(rule, people):
    """All faults of a rule, in the order of [28], whatever else is wrong at a market."""
    markets = sorted(small_markets(people), key=lambda market: [market.wants(name) for name in people])
    in_order = sorted(deals(people), key=lambda deal: [deal[name] for name in people])
    lies = []
    for market in markets:
        gets = rule(market)
        if not is_allotment(gets, people):
            yield ("form", market)
            continue
        gets = dict(gets)
        for name in people:
            if gets[name] != name and gets[name] not in market.wants(name):
                yield ("own", market, name)
        for deal in in_order:
            if is_better_for_all(market, gets, deal):
                yield ("better", market, deal)
        for name in people:
            for row in rows_of([other for other in people if other != name]):
                told = rule(with_row(market, {name: row}))
                if is_allotment(told, people) and place(market, name, told[name]) < place(market, name, gets[name]):
                    lies.append(("lie", market, name, row))
    yield from lies


class FilledAnew:
    """A rule that tells one and the same dict each time, and changes what it is handed."""

    def __init__(self, rule):
        self.rule = rule
        self.told = {}

    def __call__(self, market):
        gets = self.rule(market)
        self.told.clear()
        self.told.update(gets)
        market.people().append("x")
        for row in market.wishes().values():
            row.append("x")
        market.__init__(["z"], {})
        return self.told


class TestOnlyRule(unittest.TestCase):
    def check(self, rule, people):
        found = list(faults_by_trial(rule, people))
        first = rule_fault(rule, people)
        self.assertEqual(found[0] if found else None, first)
        if first is not None:
            self.assertIsInstance(first, tuple)
            self.assertTrue(is_rule_fault(rule, people, first))
        for fault in found[::7]:
            self.assertTrue(is_rule_fault(rule, people, fault))
            self.assertTrue(is_rule_fault(rule, tuple(people), list(fault)))

    def test_rules(self):
        swap = {"a": "b", "b": "a"}
        rules = [firm_allotment, keep, first_come, best_for_first, lambda market: None, lambda market: market,
                 lambda market: swap if market.people() == ["a", "b"] else keep(market),
                 lambda market: keep(market) if market.wants(market.people()[-1]) else {}]
        for rule in rules:
            for people in PEOPLE[1:]:
                self.check(rule, people)

    def test_one_market_otherwise(self):
        for people in (["a", "b"], ["c", "a", "b"]):
            for market in small_markets(people)[::18]:
                for told in deals(people) + [{}, None, dict.fromkeys(people, "a")]:
                    self.check(only_at(market, told), people)

    def test_only_the_firm_one(self):
        for people in PEOPLE:
            self.assertIsNone(rule_fault(rule=firm_allotment, people=people))

    def test_each_kind_comes_first_somewhere(self):
        self.assertEqual("own", rule_fault(first_come, ["a", "b", "c"])[0])
        self.assertEqual("better", rule_fault(keep, ["a", "b", "c"])[0])
        self.assertEqual("lie", rule_fault(best_for_first, ["a", "b", "c"])[0])
        self.assertEqual(("form", Market([], {})), rule_fault(lambda market: [], []))
        self.assertIsNone(rule_fault(keep, []))

    def test_example(self):
        market = Market(["a", "b"], {"a": ["b"], "b": ["a"]})
        self.assertEqual(("better", market, {"a": "b", "b": "a"}), rule_fault(keep, ["a", "b"]))
        self.assertTrue(is_rule_fault(rule=keep, people=["a", "b"], thing=["better", market, {"b": "a", "a": "b"}]))

    def test_order_of_what_is_told(self):
        fault = rule_fault(keep, ["c", "b", "a"])
        self.assertEqual(["a", "b", "c"], list(fault[2]))
        self.assertEqual(["c", "b", "a"], fault[1].people())

    def test_what_is_no_fault(self):
        people = ["a", "b", "c"]
        for rule in (keep, best_for_first, first_come):
            found = list(faults_by_trial(rule, people))
            for market in small_markets(people)[::11]:
                for thing in [("form", market)] + [("own", market, name) for name in people] \
                        + [("better", market, deal) for deal in deals(people)]:
                    self.assertEqual(thing in found, is_rule_fault(rule, people, thing))
                for name in people:
                    for row in rows_of([other for other in people if other != name]):
                        thing = ("lie", market, name, row)
                        self.assertEqual(thing in found, is_rule_fault(rule, people, thing))

    def test_of_any_object(self):
        swap = Market(["a", "b"], {"a": ["b"], "b": ["a"]})
        wrong = [("better", swap), ("better", swap, {"a": "b"}), ("better", swap, {"a": "b", "b": "b"}), ("better", swap, None),
                 ("better", Market(["b", "a"], {"a": ["b"], "b": ["a"]}), {"a": "b", "b": "a"}), ("better", None, None),
                 ("better", swap, {"a": "b", "b": "a"}, 0), ("lie", swap, "a", ["a"]), ("lie", swap, "a", None),
                 ("lie", swap, None, []), ("lie", swap, "a"), ("own", swap, None), ("own", swap, ["a"]), ("own", swap),
                 (["better"], swap, {}), ("form",), ("form", swap), ("form", swap, 0), ("none", swap), (swap, swap),
                 ("lie", swap, "a", ["b", "b"]), ("lie", swap, "zed", []), ("own", swap, "zed")]
        for thing in any_objects() + wrong:
            self.assertIs(False, is_rule_fault(keep, ["a", "b"], thing))
        self.assertIs(False, is_rule_fault(keep, ["a"], ("form", swap)))

    def test_where_no_allotment_is_returned(self):
        wrong = Market(["a", "b"], {"a": ["b"]})
        swap = Market(["a", "b"], {"a": ["b"], "b": ["a"]})
        rule = only_at(wrong, {"a": "b", "b": "b"})
        deal = {"a": "b", "b": "a"}
        self.assertTrue(is_rule_fault(rule, ["a", "b"], ("form", wrong)))
        for thing in (("own", wrong, "b"), ("better", wrong, deal), ("lie", wrong, "a", []), ("lie", swap, "b", [])):
            self.assertIs(False, is_rule_fault(rule, ["a", "b"], thing))
        lie = [fault for fault in faults_by_trial(best_for_first, ["a", "b", "c"]) if fault[0] == "lie"][0]
        self.assertTrue(is_rule_fault(best_for_first, ["a", "b", "c"], lie))
        self.assertIs(False, is_rule_fault(best_for_first, ["a", "b", "c"], ("other",) + lie[1:]))

    def test_what_rules_tell_can_be_any_object(self):
        for told in any_objects():
            if told != {"a": "a"}:
                self.assertEqual(("form", Market(["a"], {})), rule_fault(lambda market: told, ["a"]))
                self.assertTrue(is_rule_fault(lambda market: told, ["a"], ("form", Market(["a"], {}))))
            else:
                self.assertIsNone(rule_fault(lambda market: told, ["a"]))

    def test_no_rule(self):
        for thing in any_objects() + [SwapError(), BadRow(3), Market([], {})]:
            if not callable(thing):
                for asked in (rule_fault, lambda rule, people: is_rule_fault(rule, people, None)):
                    with self.assertRaises(NoRule) as caught:
                        asked(thing, None)
                    self.assertIs(thing, caught.exception.thing)

    def test_bad_people(self):
        cases = [(["a", "b", "c", "d"], 3), (["a", "b", "c", 0, 1], 3), (["a", "a", "c", "d"], 1), (["a", "b", "b", "d"], 2),
                 ([None], 0), (["rule"], 0), ([["a"]], 0), (["a", "b", {}], 2), (("a", "b", "c", "c"), 3)]
        for people, index in cases + [(thing, 0) for thing in any_objects() if not isinstance(thing, (list, tuple))]:
            for asked in (rule_fault, lambda rule, people: is_rule_fault(rule, people, None)):
                with self.assertRaises(BadPeople) as caught:
                    asked(keep, people)
                self.assertEqual(index, caught.exception.index)

    def test_rules_that_fill_one_dict_anew(self):
        for rule in (firm_allotment, keep, first_come, best_for_first):
            for people in PEOPLE[1:]:
                fault = rule_fault(FilledAnew(rule), people)
                self.assertEqual(rule_fault(rule, people), fault)
                if fault is not None:
                    self.assertTrue(is_rule_fault(FilledAnew(rule), people, fault))
                    self.assertEqual(people, fault[1].people())

    def test_errors_go_through(self):
        class Mine(Exception):
            pass

        def rule(market):
            if market.wants("a"):
                raise Mine
            return keep(market)

        market = Market(["a", "b"], {"a": ["b"]})
        with self.assertRaises(Mine):
            rule_fault(rule, ["a", "b"])
        with self.assertRaises(Mine):
            is_rule_fault(rule, ["a", "b"], ("form", market))
        with self.assertRaises(Mine):
            is_rule_fault(rule, ["a", "b"], ("lie", Market(["a", "b"], {}), "a", ["b"]))
        self.assertEqual("form", rule_fault(lambda market: rule(market) and None, ["a", "b"])[0])

    def test_what_is_handed_is_new(self):
        handed = []

        def rule(market):
            handed.append(market)
            return keep(market)

        fault = rule_fault(rule, ["a", "b"])
        self.assertTrue(all(market is not fault[1] for market in handed))
        is_rule_fault(rule, ["a", "b"], fault)
        self.assertTrue(all(market is not fault[1] for market in handed))
        self.assertTrue(all(isinstance(market, Market) for market in handed))

    def test_promptly(self):
        began = time.time()
        for people in permutations(["a", "b", "c"]):
            self.assertIsNone(rule_fault(firm_allotment, list(people)))
        self.assertLess(time.time() - began, 10)


if __name__ == "__main__":
    unittest.main()
