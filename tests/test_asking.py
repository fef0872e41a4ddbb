"""Points [6], [99], [100]: askers."""

import random
import time
import unittest
from itertools import product

from examples import any_objects, check_anew, check_indexes, check_markets, check_things, crowd, market_n, refused, small_markets, turned_dict
from knowntrials import markets_of
from sharetrials import random_market
from test_known import PEOPLE_CASES

from swaphouse.alike import Steps
from swaphouse.asking import asked, firm_asker
from swaphouse.errors import AsksOn, BadAsk, BadAsker, BadPeople, BadRow
from swaphouse.markets import Market
from swaphouse.notices import Notice
from swaphouse.rings import firm_allotment
from swaphouse.sessions import Session
from swaphouse.sure import sure_things


def best(market, person, lot):
    """What a person likes best among the things of a lot and its own."""
    row = market.wants(person)
    return min(list(lot) + [person], key=lambda thing: (row + [person]).index(thing) if thing in row + [person] else 99)


def scripted(asks, end):
    """An asker that asks these one behind another, and then ends."""
    return lambda people, told: asks[len(told)] if len(told) < len(asks) else end


def known_of(told):
    known = {}
    for person, lot, name in told:
        known.setdefault(person, []).extend((name, thing) for thing in [*lot, person] if thing != name)
    return known


def bound(many):
    return 2 * many - 2 if many > 1 else 0


class TestAsking(unittest.TestCase):
    def check_firm(self, market):
        seen = []

        def watching(people, told):
            seen.append((people, told))
            return firm_asker(people, told)

        many, gets, is_sure = asked(market, watching)
        self.assertEqual((firm_allotment(market), True), (gets, is_sure))
        self.assertLessEqual(many, bound(len(market.people())))
        self.assertEqual(many + 1, len(seen))
        for people, told in seen:
            self.assertEqual(market.people(), people)
            for triple in told:
                self.assertIsInstance(triple, tuple)
                self.assertEqual(best(market, *triple[:2]), triple[2])
        return many

    def test_firm_asker(self):
        chance = random.Random(231)
        for names in ([], ["a"], ["b", "a"], ["b", "c", "a"]):
            worst = max(self.check_firm(market) for market in small_markets(names))
            # FACT: for two people, for three, it can't be fewer.
            self.assertEqual(bound(len(names)), worst)
        for _ in range(400):
            names = chance.sample("fbdaec", chance.randint(4, 6))
            self.check_firm(random_market(chance, names, chance.choice([0.2, 0.5, 1])))
        # Each is left alone behind the one that was asked first, again and again.
        names = crowd(6)
        self.assertEqual(10, self.check_firm(Market(names, {names[0]: names[1:]})))

    def test_whatever_was_told(self):
        """Behind any answers of a market it asks somebody what is not sure yet, or ends where all is."""
        chance = random.Random(232)
        for _ in range(300):
            names = chance.sample("fbdaec", chance.randint(2, 6))
            market = random_market(chance, names, chance.choice([0.3, 1]))
            told = []
            for _ in range(chance.randint(0, 8)):
                person = chance.choice(names)
                lot = sorted(chance.sample([name for name in names if name != person], chance.randint(0, len(names) - 1)))
                told.append(chance.choice([tuple, list])((person, chance.choice([tuple, list])(lot), best(market, person, lot))))
            while not isinstance(firm_asker(names, told), dict):
                person, lot = firm_asker(people=names, told=told)
                self.assertEqual(sorted(set(lot) - {person}), lot)
                self.assertLess(len(told), 20)
                told.append((person, lot, best(market, person, lot)))
            self.assertEqual(firm_allotment(market), firm_asker(names, told))
            self.assertEqual(firm_allotment(market), sure_things(names, known_of(told)))

    def test_told(self):
        """How many questions, what was told at last, and whether it was sure."""
        chance = random.Random(233)
        for market in chance.sample(list(markets_of(("b", "c", "a"))), 60):
            for _ in range(8):
                asks = []
                for _ in range(chance.randint(0, 6)):
                    person = chance.choice("abc")
                    asks.append((person, sorted(chance.sample([name for name in "abc" if name != person], chance.randint(0, 2)))))
                end = chance.choice([firm_allotment(market), turned_dict(firm_allotment(market)), {}, {"a": "b"}, {"a": "a", "b": "b", "c": "c"}])
                told = [(person, lot, best(market, person, lot)) for person, lot in asks]
                sure = sure_things(["a", "b", "c"], known_of(told))
                self.assertEqual((len(asks), end, len(sure) == 3 and sure == end), asked(market, scripted(asks, end)))

    def test_example(self):
        many, gets, is_sure = asked(market=market_n(), asker=firm_asker)
        self.assertEqual((firm_allotment(market_n()), True), (gets, is_sure))
        self.assertLessEqual(many, 10)

    def test_fact(self):
        """For two people no asker that asks once is always sure."""
        markets = small_markets(["a", "b"])
        for person, lot in [("a", []), ("a", ["b"]), ("b", []), ("b", ["a"])]:
            for ends in product(*[[{"a": "a", "b": "b"}, {"a": "b", "b": "a"}]] * 2):
                asker = lambda people, told: (person, lot) if not told else ends[told[0][2] == person]
                self.assertFalse(all(asked(market, asker)[2] for market in markets))

    def test_edges(self):
        none = Market([], {})
        self.assertEqual((0, {}, True), asked(none, firm_asker))
        self.assertEqual((0, {}, True), asked(none, lambda people, told: {}))
        self.assertEqual((0, {"x": 1}, False), asked(none, lambda people, told: {"x": 1}))
        only = Market(["a"], {})
        self.assertEqual((0, {"a": "a"}, True), asked(only, firm_asker))
        self.assertEqual((1, {"a": "a"}, True), asked(only, scripted([("a", [])], {"a": "a"})))
        self.assertEqual({}, firm_asker([], []))
        # The last one that is asked may be told, too, when as many as there may be have been.
        self.assertEqual((4, {}, False), asked(Market(["a", "b"], {}), scripted([("a", ["b"])] * 4, {})))

    def test_asks_on(self):
        for many in (1, 2, 3):
            names = list("abc"[:many])
            error = refused(self, AsksOn, asked, Market(names, {}), lambda people, told: ("a", ()))
            self.assertEqual(many * many, error.many)
            refused(self, BadAsk, asked, Market(names, {}), scripted([("a", [])] * many * many, None))
        refused(self, BadAsk, asked, Market([], {}), lambda people, told: ("a", []))

    def test_bad_ask(self):
        market = market_n()
        wrong = [("ann", ["ann"]), ("ann", ["cy", "bo"]), ("ann", ["bo", "bo"]), ("zed", []), ("ann", ["zed"]), ("ann",), ("ann", [], 1), ("ann", "bo"),
                 ("ann", None), ("ann", {}), (["ann"], []), ("ann", [["bo"]]), [("ann", [])], ("ann", [0])]
        for ahead in (0, 2):
            for thing in any_objects() + wrong:
                if not isinstance(thing, dict):
                    told = refused(self, BadAsk, asked, market, scripted([("dan", ["eve"])] * ahead, thing))
                    self.assertIs(thing, told.thing)

    def test_what_askers_may_do(self):
        """Change what they are handed, fill one list anew at each asking, raise."""
        market = market_n()
        held = []
        row = []

        def spoils(people, told):
            held.append((people, told))
            answer = firm_asker(people, told)
            copied = [(person, list(lot), name) for person, lot, name in told]
            people.clear()
            for triple in told:
                triple[1].clear()
            told.clear()
            if isinstance(answer, dict):
                return answer
            row[:] = [answer[0], list(answer[1])]
            self.assertLess(len(copied), 99)
            return row

        self.assertEqual(asked(market, firm_asker), asked(market, spoils))
        self.assertEqual(len(held), len({id(people) for people, _ in held}))
        error = BadRow(5)
        with self.assertRaises(BadRow) as caught:
            asked(market, lambda people, told: self.throw(error))
        self.assertIs(error, caught.exception)
        self.assertRaises(ZeroDivisionError, asked, market, lambda people, told: 1 // len(told))

    def throw(self, error):
        raise error

    def test_told_dict_is_new(self):
        inner = ["x"]
        end = {"b": inner, "a": {"c": inner}, "c": (inner,)}
        told = asked(Market(["a"], {}), lambda people, told: end)[1]
        self.assertEqual(end, told)
        parts = [told["b"], told["a"]["c"], told["c"][0], inner]
        self.assertEqual(4, len({id(part) for part in parts}))
        self.assertIsNot(end, told)

    def test_handed_by_place(self):
        self.assertEqual((0, {}, True), asked(Market([], {}), lambda one, two: {}))
        handed = []
        asked(Market(["b", "a"], {"a": ["b"]}), lambda people, told: handed.append((people, told)) or ({} if told else ("a", ("b",))))
        self.assertEqual([(["b", "a"], []), (["b", "a"], [("a", ["b"], "b")])], handed)
        self.assertIsInstance(handed[1][1][0][1], list)

    def test_wrong(self):
        check_markets(self, asked)
        barred = (int, str, list, tuple, dict, type(None), Market, Notice, Steps, Session, ValueError)
        check_things(self, BadAsker, lambda thing: asked(market_n(), thing), lambda thing: not isinstance(thing, barred))
        for thing in (Session("rings"), market_n(), Steps([], {}), BadRow(1), True):
            self.assertIs(thing, refused(self, BadAsker, asked, market_n(), thing).thing)
        check_indexes(self, BadPeople, lambda thing: firm_asker(thing, []), PEOPLE_CASES)

    def test_told_anew(self):
        check_anew(self, firm_asker, ["b", "a", "c"], [("a", ["b"], "b")])
        check_anew(self, firm_asker, ["a"], [])
        check_anew(self, asked, market_n(), firm_asker)
        self.assertEqual(firm_asker(["b", "a"], []), firm_asker(("b", "a"), ()))

    def test_sixty_promptly(self):
        began = time.time()
        chance = random.Random(234)
        names = crowd(60)
        markets = [random_market(chance, names, part) for part in (0.05, 0.3, 1)] + [Market(names, {names[0]: names[1:]}), Market(names, {})]
        markets += [Market(names, {name: names[at + 1:] for at, name in enumerate(names)}), Market(names, {name: names[:at] for at, name in enumerate(names)})]
        for market in markets:
            self.check_firm(market)
        self.assertEqual(3600, refused(self, AsksOn, asked, market, lambda people, told: ("p000", names[1:3])).many)
        self.assertLess(time.time() - began, 60)


if __name__ == "__main__":
    unittest.main()
