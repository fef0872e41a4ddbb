"""Points [1] to [6]: each function of the interface by names and by place, asked again, by equal things, lists for tuples."""

import importlib
import inspect
import unittest

from examples import market_n, mutable_in, notice_n, notice_o, notice_p, notice_s
from test_interface import CLASSES, FUNCTIONS, parts

from swaphouse.alike import Steps
from swaphouse.asking import firm_asker
from swaphouse.audits import result_for
from swaphouse.markets import Market
from swaphouse.noticetexts import notice_text
from swaphouse.notices import Notice
from swaphouse.refusals import refusal
from swaphouse.rings import firm_allotment
from swaphouse.sessions import Session
from swaphouse.sure import two_worlds

N, P, S, O = market_n(), notice_p().market(), notice_s().market(), notice_o().market()
NEEDS = notice_p().needs()
ALL_ALONE = {"ann": None, "bo": None, "cy": None, "dan": None, "eve": None}
FIRST = {"ann": "bo", "bo": "ann", "cy": "dan", "dan": "cy"}
SECOND = {"ann": "dan", "bo": "cy", "cy": "bo", "dan": "ann"}
OWN = {name: name for name in N.people()}
STEPS = Steps(["a", "b", "c", "d"], {"a": [["b", "d"], ["a"]], "b": [["a", "c"], ["b"]], "c": [["b", "d"], ["c"]], "d": [["a", "c"], ["d"]]})
NONE_FIRM = Steps(["a", "b", "c"], {"a": [["c"], ["a"]], "b": [["c"], ["b"]], "c": [["a", "b"], ["c"]]})
RESULT_N = "ann gets cy\nbo gets ann\ncy gets bo\ndan gets eve\neve gets dan\n"
PAPER_N = ("rings", [["ann", "cy", "bo"], ["dan", "eve"], ["fay"]])
PEOPLE = ["ann", "bo", "cy"]
KNOWN = {"ann": [("bo", "ann"), ("bo", "cy")], "cy": [("ann", "bo")]}
TURNS = {"cy": [("ann", "bo"), ("bo", "ann")]}
WRONG_N = ("gets", {"ann": "bo", "bo": "ann"})


def keep(market):
    return {name: name for name in market.people()}


ARGUMENTS = {
    "notice_text": (notice_n(),), "read_notice": (notice_text(notice_n()),), "notice_fault": ("rule x",), "notice_goes_on": ("rule p",),
    "result_text": (WRONG_N,), "read_result": (RESULT_N,), "result_fault": ("ann gets x y",),
    "paper_text": (PAPER_N,), "read_paper": ("ring ann, cy, bo\n",), "paper_fault": ("ring 9",),
    "rounds": (N,), "firm_allotment": (N,), "is_firm": (N, firm_allotment(N)),
    "bettering": (N, OWN), "is_bettering": (N, OWN, ["ann", "cy", "bo"]), "prices": (N, firm_allotment(N)),
    "are_prices": (N, firm_allotment(N), {"ann": 1, "bo": 1, "cy": 1, "dan": 0, "eve": 0, "fay": 0}), "hangs_on": (N, "dan"),
    "some_firm": (STEPS,), "none_firm": (NONE_FIRM,), "is_none_firm": (NONE_FIRM, ([["a", "b", "c"]], ["a", "b"])), "count_alike": (STEPS,),
    "alike_at": (STEPS, 2), "could_get": (N, "ann"), "result_by": (N, "ann", "eve"), "swayed": (N, "dan"), "two_rows": (N, "dan", "eve"),
    "is_two_rows": (N, "dan", "eve", (["eve"], [])), "chain_to": (N, "ann", "eve"), "is_chain_to": (N, "ann", "eve", [("dan", "ann")]),
    "lied": (N, {"ann": ["eve"], "dan": ["ann"]}), "losers": (N, {"ann": ["eve"], "dan": ["ann"]}), "together": (N, {"ann": "bo"}),
    "rule_fault": (keep, ["a", "b"]), "is_rule_fault": (keep, ["a", "b"], ("form", Market(["a", "b"], {}))),
    "ties": (P,), "exchange_fault": (P, ALL_ALONE), "most_pairs": (P,), "best_pairing": (P,), "better_row": (P, ALL_ALONE),
    "is_better_row": (P, ALL_ALONE, ["ann", "bo"]), "bettered": (P, ALL_ALONE, ["ann", "bo"]), "odd_lots": (P,),
    "odd_lots_fault": (P, (["bo"], [["dan"], ["eve", "bo"]])), "left_at_least": (P, (["bo"], [["dan"], ["eve"]])), "person_kind": (P, "dan"),
    "best_without": (P, "dan"), "tie_kind": (P, "ann", "cy"), "best_with": (P, "bo", "dan"), "best_apart": (P, "bo", "dan"), "whom_to_find": (P,),
    "count_best": (P,), "best_at": (P, 1), "best_number": (P, {**ALL_ALONE, "ann": "cy", "cy": "ann", "bo": "dan", "dan": "bo"}),
    "served_counts": (P,), "can_serve": (P, ["ann", "cy"]), "serve_paper": (P, ["dan", "eve"]),
    "is_serve_paper": (P, ["dan", "eve"], (["bo"], [["dan"], ["eve"]])), "served": (P, NEEDS), "needy_pairing": (P, NEEDS),
    "needy_fault": (P, NEEDS, ALL_ALONE), "left_papers": (P, NEEDS), "in_whose_place": (P, NEEDS, "dan"), "placed": (P, NEEDS, "dan", "eve"),
    "with_need": (P, NEEDS, "dan", 0), "with_tie": (P, NEEDS, "ann", "dan"),
    "most_served": (N, []), "rings_served": (N, []), "heights": (N, []), "pay": (N, [], {name: 1 for name in N.people()}),
    "most_in_threes": (N,), "threes_served": (N, 4), "threes_paper": (N, 6), "is_threes_paper": (N, 6, ("heights", {})), "pairs_enough": (P,),
    "more_by_rings": (N,), "asked_rows": (S,), "party": (O,), "odd_rings": (O,), "alone": (O,), "firm_pairing": (S,), "leaving": (S, FIRST),
    "share_fault": (S, FIRST), "party_fault": (O, {"ann": "bo", "bo": "cy", "cy": "ann"}), "firm_pairings": (S,), "firm_at": (S, 1),
    "firm_number": (S, SECOND), "middle": (S, [FIRST, SECOND, SECOND]), "apart": (S, FIRST, SECOND), "way": (S, FIRST, SECOND),
    "switches": (S,), "sides": (S, SECOND), "side_needs": (S,), "pairing_by": (S, [1]), "broken_need": (S, [1]), "mates": (S, "ann"),
    "firm_within": (S, {"ann": ("bo", "bo")}), "bounds_clash": (S, {"ann": ("bo", "bo"), "bo": ("cy", "cy")}), "least_worst": (S,),
    "place_clash": (S, 1), "odd_count": (O,), "most_paired": (O,), "calm_pairing": (O,), "is_calm": (S, FIRST), "calm_paper": (O, 3),
    "may_be_left": (O,), "surely_paired": (S,), "fewest_leaving": (O,), "left_by": (S, dict.fromkeys(FIRST), "ann", "bo"),
    "road": (S, dict.fromkeys(FIRST)), "is_road": (S, dict.fromkeys(FIRST), [("ann", "bo"), ("cy", "dan")]), "without": (N, "cy"),
    "changed_rings": (N, "cy"), "changed_served": (P, NEEDS, "eve"), "odd_change": (O, "ann"), "rerowed": (N, "cy", ["ann"]),
    "odd_by_row": (O, "ann", []), "raised": (N, "bo", "cy"), "raising": (N, "bo", "cy"), "result_for": (notice_p(),), "paper_for": (notice_p(),),
    "audit": (notice_text(notice_n()), RESULT_N, "ring fay\n"), "refusal": (notice_n(), WRONG_N),
    "is_refusal": (notice_n(), WRONG_N, refusal(notice_n(), WRONG_N)), "why_not": (N, "dan", "ann"), "why_left": (P, NEEDS, "dan"),
    "why_not_share": (S, FIRST, "bo", "cy"), "write_session": (Session("pairs"),), "read_session": ("rule rings\nhold many\n",),
    "known_by": (PEOPLE, [[["ann", "bo"], ["cy"]]]), "fitting": (PEOPLE, KNOWN), "turn": (PEOPLE, TURNS), "sure_rings": (PEOPLE, KNOWN),
    "sure_things": (PEOPLE, KNOWN), "two_worlds": (PEOPLE, KNOWN), "are_two_worlds": (PEOPLE, KNOWN, two_worlds(PEOPLE, KNOWN)),
    "asked": (N, firm_asker), "firm_asker": (PEOPLE, [("ann", ["bo"], "bo")]),
    "Market": (["a", "b"], {"a": ["b"]}), "Notice": ("pairs", P, NEEDS), "Steps": (["a"], {"a": [["a"]]}), "Session": ("shares",),
    "wants": ("ann",), "do": (("come", "zoe", ["ann"]),), "would": (("come", "zoe", ["ann"]),), "is_question": (("many",),), "answer": (("many",),),
    "at": (1,), "trial": (lambda session: session.count(),),
}


def otherwise(thing):
    """An equal thing: lists for tuples, tuples for lists, dicts in another order, new objects."""
    if isinstance(thing, dict):
        return {key: otherwise(thing[key]) for key in reversed(list(thing))}
    if isinstance(thing, list):
        return tuple(otherwise(part) for part in thing)
    if isinstance(thing, tuple):
        return [otherwise(part) for part in thing]
    if isinstance(thing, (Market, Steps)):
        return type(thing)(otherwise(thing.people()), otherwise(thing.wishes()))
    if isinstance(thing, Notice):
        return Notice(thing.rule(), otherwise(thing.market()), otherwise(thing.needs()))
    return thing


class TestNamed(unittest.TestCase):
    def test_all_are_there(self):
        names = [parts(told)[0] for functions in FUNCTIONS.values() for told in functions]
        self.assertEqual([], [name for name in names if name not in ARGUMENTS])
        self.assertEqual(sorted(set(ARGUMENTS) - set(names)),
                         sorted({"Market", "Notice", "Steps", "Session"} | self.methods_with_parameters()))

    def methods_with_parameters(self):
        told = [parts(method) for _, methods in CLASSES.values() for method in methods]
        return {name for name, parameters in told if parameters and name != "__eq__"}

    def test_functions(self):
        for file, functions in FUNCTIONS.items():
            for told in functions:
                name, parameters = parts(told)
                function = getattr(importlib.import_module("swaphouse." + file), name)
                self.check(function, parameters, ARGUMENTS[name])

    def check(self, function, parameters, arguments):
        self.assertEqual(len(parameters), len(arguments), function)
        first = function(*arguments)
        again = function(**dict(zip(parameters, arguments)))
        self.assertEqual(first, again)
        self.assertEqual(repr(type(first)), repr(type(again)))
        other = [otherwise(thing) for thing in arguments]
        self.assertEqual(first, function(*other), function)
        self.assertEqual(first, function(**dict(reversed(list(zip(parameters, other))))))
        found = mutable_in(first)
        self.assertEqual(len(found), len({id(one) for one in found}))
        self.assertFalse({id(one) for one in found} & {id(one) for thing in arguments for one in mutable_in(thing)}, function)

    def test_classes(self):
        for file, (told, _) in CLASSES.items():
            name, parameters = parts(told)
            kind = getattr(importlib.import_module("swaphouse." + file), name)
            self.check(kind, parameters, ARGUMENTS[name])

    def test_methods(self):
        self.assertEqual(["cy", "bo"], N.wants(person="ann"))
        for name in ("do", "would", "is_question", "answer", "at", "trial"):
            told = []
            for by_name in (False, True):
                session = Session("rings")
                session.do(deed=("come", "ann", []))
                method = getattr(session, name)
                parameter = list(inspect.signature(method).parameters)[0]
                told.append(method(**{parameter: ARGUMENTS[name][0]}) if by_name else method(*ARGUMENTS[name]))
            self.assertEqual(told[0], told[1])

    def test_promises(self):
        """[1], over the whole program, by the examples: one firm allotment, most and needier, a firm pairing or an odd ring."""
        self.assertEqual(("gets", {name: thing for name, thing in firm_allotment(N).items() if name != thing}), result_for(notice_n()))
        self.assertEqual([("ann", "cy"), ("bo", "eve")], result_for(notice_p())[1])
        self.assertEqual([("with", 2), ("gets", 0)], [(told[0], len(told[1])) for told in (result_for(notice_s()), result_for(notice_o()))])


if __name__ == "__main__":
    unittest.main()
