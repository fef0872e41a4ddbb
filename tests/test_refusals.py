"""Points [84], [86]: right, or a refusal."""

import random
import time
import unittest
from itertools import combinations, permutations

from audittrials import all_results, right_by_trial, small_notices
from examples import any_objects, check_anew, check_things, crowd, notice_n, notice_o, notice_p, notice_s, refused
from pairtrials import large_markets, near_by_trial, pairings_by_trial
from sharetrials import blocks, firm_by_trial, random_market, sharing_by_trial, two_sides

from swaphouse.audits import result_for
from swaphouse.errors import BadNotice, BadResult
from swaphouse.markets import Market
from swaphouse.notices import Notice
from swaphouse.refusals import is_refusal, refusal


def place(row, name, thing):
    return (row + [name]).index(thing) if thing in row + [name] else len(row) + 1


def rings_told(notice, result):
    """All refusals by rings, by the words of [84]."""
    rows = notice.market().wishes()
    gets = {name: result[1].get(name, name) for name in rows}
    found = []
    for many in range(1, len(rows) + 1):
        for ring in permutations(rows, many):
            told = dict(zip(ring, ring[1:] + ring[:1]))
            ranks = [(place(rows[name], name, told[name]), place(rows[name], name, gets[name])) for name in ring]
            if ring[0] == min(ring) and all(now <= ahead for now, ahead in ranks) and any(now < ahead for now, ahead in ranks):
                found.append(("ring", list(ring)))
    return found


def pairs_of(result):
    return list(result[1]) if result[0] == "with" else []


def pairs_told(notice, result):
    near = near_by_trial(notice.market())
    served = {name for pair in pairs_of(result) for name in pair}
    found = [("tie", one, other) for one, other in pairs_of(result) if other not in near[one]]
    for told in pairings_by_trial(notice.market()):
        unlike = [name for name in notice.needs() if (told[name] is not None) != (name in served)]
        if unlike and told[unlike[0]] is not None:
            found.append(("serve", told))
    return found


def shares_told(notice, result):
    rows = sharing_by_trial(notice.market())
    if pairs_of(result) == [] and not firm_by_trial(notice.market()):
        return []
    found = [("tie", one, other) for one, other in pairs_of(result) if other not in rows[one]]
    has = {name: name for name in rows}
    for one, other in pairs_of(result):
        if other in rows[one]:
            has.update({one: other, other: one})
    for one, other in combinations(sorted(rows), 2):
        if other in rows[one] and place(rows[one], one, other) < place(rows[one], one, has[one]) \
                and place(rows[other], other, one) < place(rows[other], other, has[other]):
            found.append(("leave", one, other))
    return found


TOLD = {"rings": rings_told, "pairs": pairs_told, "shares": shares_told}


def things_for(notice):
    """Objects that may be refusals."""
    names = sorted(notice.market().people())
    found = [("ring", list(ring)) for many in range(len(names) + 1) for ring in permutations(names, many)]
    found += [(word, one, other) for word in ("tie", "leave", "serve") for one in names for other in names]
    if len(names) < 4:
        found += [("serve", dict(zip(names, mates))) for mates in permutations(names)]
    return found + [("serve", told) for told in pairings_by_trial(notice.market())]


class TestRefusals(unittest.TestCase):
    def check(self, notice, result):
        told = TOLD[notice.rule()](notice, result)
        first = refusal(notice, result)
        self.assertEqual(result in right_by_trial(notice), first is None)
        self.assertEqual(first is None, not told)
        if first is not None:
            self.assertIn(first, told)
            self.assertIsInstance(first, tuple)
        return told

    def test_just_one(self):
        for notice in small_notices(random.Random(211), 60):
            results = all_results(notice)
            if notice.rule() == "rings":
                results = [result for result in results if set(result[1]) == set(result[1].values())]
            things = things_for(notice)
            for at, result in enumerate(results):
                told = self.check(notice, result)
                if at % 3 == 0 or len(results) < 8:
                    for thing in things:
                        self.assertEqual(thing in told, is_refusal(notice, result, thing), (result, thing))

    def test_lists_for_tuples(self):
        result = ["gets", {"ann": "bo", "bo": "ann"}]
        self.assertTrue(is_refusal(notice_n(), result, ["ring", ("ann", "cy", "bo")]))
        self.assertTrue(is_refusal(notice_n(), result, ("ring", ("dan", "eve"))))
        self.assertFalse(is_refusal(notice_n(), result, ("ring", ("eve", "dan"))))
        self.assertTrue(is_refusal(notice_o(), ["with", [["ann", "bo"]]], ["leave", "bo", "cy"]))
        self.assertFalse(is_refusal(notice_o(), ["with", [["ann", "bo"]]], ["leave", "cy", "bo"]))

    def test_example(self):
        result = ("gets", {"ann": "bo", "bo": "ann", "dan": "eve", "eve": "dan"})
        self.assertEqual(("ring", ["ann", "cy", "bo"]), refusal(notice=notice_n(), result=result))
        self.assertTrue(is_refusal(notice=notice_n(), result=result, thing=("ring", ["ann", "cy", "bo"])))
        self.assertEqual(("leave", "bo", "cy"), refusal(notice_o(), ("with", [("ann", "bo")])))
        for notice in (notice_n(), notice_p(), notice_s(), notice_o()):
            self.assertIsNone(refusal(notice, result_for(notice)))

    def test_kinds(self):
        # ann gets what she does not name: her own thing is better, a ring of one.
        self.assertIn(("ring", ["ann"]), rings_told(notice_n(), ("gets", {"ann": "dan", "dan": "ann"})))
        self.assertTrue(is_refusal(notice_n(), ("gets", {"ann": "dan", "dan": "ann"}), ("ring", ["ann"])))
        # dan and eve have no tie; each counts as served, so who is served beside them bears on nothing.
        result = ("with", [("ann", "cy"), ("dan", "eve")])
        self.assertEqual(("tie", "dan", "eve"), refusal(notice_p(), result))
        pairing = {"ann": "cy", "bo": "eve", "cy": "ann", "dan": None, "eve": "bo"}
        self.assertTrue(is_refusal(notice_p(), result, ("serve", pairing)))
        self.assertEqual("serve", refusal(notice_p(), ("with", [("ann", "cy"), ("bo", "dan")]))[0])
        # cy does not name dan: for leave both count as alone.
        notice = Notice("shares", Market(["a", "b", "c", "d"], {"a": ["d", "b"], "b": ["a"], "c": ["d"], "d": ["a"]}), [])
        result = ("with", [("a", "b"), ("c", "d")])
        for thing in (("tie", "c", "d"), ("leave", "a", "d")):
            self.assertTrue(is_refusal(notice, result, thing))
        self.assertFalse(is_refusal(notice, ("with", [("a", "d")]), ("leave", "a", "b")))

    def test_edges(self):
        for rule in ("rings", "pairs", "shares"):
            for names in ([], ["a"]):
                notice = Notice(rule, Market(names, {}), names if rule == "pairs" else [])
                self.assertIsNone(refusal(notice, ("gets", {})))
                for thing in any_objects():
                    self.assertFalse(is_refusal(notice, ("gets", {}), thing))
        # Nobody at all, where no pairing is firm, is right: nothing refuses it.
        self.assertFalse(is_refusal(notice_o(), ("gets", {}), ("leave", "ann", "bo")))
        self.assertEqual("leave", refusal(notice_s(), ("gets", {}))[0])

    def test_any_object(self):
        results = [(notice_n(), ("gets", {})), (notice_p(), ("with", [("ann", "eve")])), (notice_s(), ("with", [("ann", "cy")]))]
        wrong = [("ring", []), ("ring", ["ann", "ann"]), ("ring", ["zed"]), ("ring", "ann"), ("serve", {}), ("serve", {"ann": "bo"}), ("tie", "ann"),
                 ("tie", "eve", "ann"), ("tie", "ann", "ann"), ("tie", ["ann"], "eve"), ("leave", "ann", ["bo"]), ("leave", None, None),
                 ("ring", ["ann", "cy", "bo"], 1), ("ring", ["cy", "bo", "ann"]), ("ring", [["ann"]]), ("serve", dict.fromkeys(["ann", "bo", "cy", "dan", "eve"]))]
        for notice, result in results:
            for thing in any_objects() + wrong:
                self.assertFalse(is_refusal(notice, result, thing))
                for word in ("tie", "leave", "serve", "ring"):
                    for told in ((word, thing, "bo"), (word, "ann", thing), (word, thing, thing), (thing, ["ann", "cy", "bo"]), (thing, "ann", "eve")):
                        if not (isinstance(thing, str) and thing in ("ring", "ann", "bo")):
                            self.assertFalse(is_refusal(notice, result, told), told)
        pairing = dict(refusal(notice_p(), ("gets", {}))[1])
        self.assertTrue(is_refusal(notice_p(), ("gets", {}), ("serve", pairing)))
        self.assertFalse(is_refusal(notice_p(), ("gets", {}), ("ring", pairing)))

    def test_wrong(self):
        for function in (lambda thing: refusal(thing, None), lambda thing: is_refusal(thing, None, None)):
            check_things(self, BadNotice, function, lambda thing: isinstance(thing, Notice))
        cases = [(notice_n(), [("with", [("ann", "bo")]), ("gets", {"ann": "bo"}), ("gets", {"zed": "ann", "ann": "zed"}), ("with", []),
                               ("gets", {"ann": "bo", "bo": "cy"}), ("gets", {"ann": "ann"})]),
                 (notice_p(), [("gets", {"ann": "bo", "bo": "ann"}), ("with", [("ann", "zed")]), ("with", [("bo", "ann")]), ("with", [])]),
                 (notice_s(), [("gets", {"ann": "bo", "bo": "ann"}), ("with", [("cy", "dan"), ("ann", "bo")]), ("with", [("ann", "eve")])])]
        for notice, wrong in cases:
            for function in (refusal, lambda told, thing: is_refusal(told, thing, None)):
                check_things(self, BadResult, lambda thing: function(notice, thing), lambda thing: thing in (("gets", {}), ["gets", {}]))
                for thing in wrong:
                    self.assertIs(thing, refused(self, BadResult, function, notice, thing).thing)

    def test_told_anew(self):
        cases = [(notice_n(), ("gets", {"ann": "bo", "bo": "ann"})), (notice_p(), ["with", [["ann", "bo"]]]), (notice_s(), ("gets", {}))]
        for notice, result in cases:
            check_anew(self, refusal, notice, result)
            check_anew(self, is_refusal, notice, result, refusal(notice, result))
            again = Notice(notice.rule(), notice.market(), tuple(notice.needs()))
            self.assertEqual(refusal(notice, result), refusal(again, tuple(result)))

    def test_promptly(self):
        began = time.time()
        chance = random.Random(212)
        names = crowd(60)
        for part in (0.05, 0.3, 1):
            notice = Notice("rings", random_market(chance, names, part), [])
            for result in (("gets", {}), ("gets", dict(zip(names, names[1:] + names[:1]))), result_for(notice)):
                told = refusal(notice, result)
                self.assertEqual(result == result_for(notice), told is None)
                self.assertEqual(told is not None, is_refusal(notice, result, told))
        for market in large_markets(chance, 40) + [blocks(10), two_sides(20)]:
            names = sorted(market.people())
            for rule in ("pairs", "shares"):
                notice = Notice(rule, market, market.people() if rule == "pairs" else [])
                for result in (("gets", {}), ("with", list(zip(names[:-1:2], names[1::2]))), result_for(notice)):
                    told = refusal(notice, result)
                    self.assertEqual(told is not None, is_refusal(notice, result, told))
                self.assertIsNone(told)
        self.assertLess(time.time() - began, 30)


if __name__ == "__main__":
    unittest.main()
