"""The interface: names, files, parameters, and which methods each class defines itself."""

import importlib
import inspect
import unittest

FUNCTIONS = {
    "noticetexts": ["notice_text(notice)", "read_notice(text)", "notice_fault(text)", "notice_goes_on(text)"],
    "resulttexts": ["result_text(result)", "read_result(text)", "result_fault(text)"],
    "papertexts": ["paper_text(paper)", "read_paper(text)", "paper_fault(text)"],
    "rings": ["rounds(market)", "firm_allotment(market)", "is_firm(market, thing)"],
    "bettering": ["bettering(market, allotment)", "is_bettering(market, allotment, thing)", "prices(market, allotment)",
                  "are_prices(market, allotment, thing)"],
    "closedlots": ["hangs_on(market, person)"],
    "alike": ["some_firm(steps)", "none_firm(steps)", "is_none_firm(steps, thing)", "count_alike(steps)",
              "alike_at(steps, number)"],
    "reach": ["could_get(market, person)", "result_by(market, person, other)", "swayed(market, person)",
              "two_rows(market, person, other)", "is_two_rows(market, person, other, thing)"],
    "chains": ["chain_to(market, person, other)", "is_chain_to(market, person, other, thing)"],
    "lying": ["lied(market, lies)", "losers(market, lies)", "together(market, things)"],
    "onlyrule": ["rule_fault(rule, people)", "is_rule_fault(rule, people, thing)"],
    "mostpairs": ["ties(market)", "exchange_fault(market, thing)", "most_pairs(market)", "best_pairing(market)",
                  "better_row(market, pairing)", "is_better_row(market, pairing, thing)", "bettered(market, pairing, row)"],
    "oddlots": ["odd_lots(market)", "odd_lots_fault(market, thing)", "left_at_least(market, thing)"],
    "kinds": ["person_kind(market, person)", "best_without(market, person)", "tie_kind(market, one, other)",
              "best_with(market, one, other)", "best_apart(market, one, other)", "whom_to_find(market)"],
    "paircounts": ["count_best(market)", "best_at(market, number)", "best_number(market, pairing)", "served_counts(market)"],
    "serving": ["can_serve(market, lot)", "serve_paper(market, lot)", "is_serve_paper(market, lot, thing)"],
    "needy": ["served(market, needs)", "needy_pairing(market, needs)", "needy_fault(market, needs, thing)",
              "left_papers(market, needs)"],
    "instead": ["in_whose_place(market, needs, person)", "placed(market, needs, person, other)"],
    "needmoves": ["with_need(market, needs, person, place)", "with_tie(market, needs, one, other)"],
    "anyrings": ["most_served(market, givers)", "rings_served(market, givers)", "heights(market, givers)",
                 "pay(market, givers, thing)"],
    "threes": ["most_in_threes(market)", "threes_served(market, number)", "threes_paper(market, number)",
               "is_threes_paper(market, number, thing)"],
    "enough": ["pairs_enough(market)", "more_by_rings(market)"],
    "parties": ["asked_rows(market)", "party(market)", "odd_rings(market)", "alone(market)", "firm_pairing(market)"],
    "firmness": ["leaving(market, pairing)", "share_fault(market, thing)", "party_fault(market, thing)"],
    "firms": ["firm_pairings(market)", "firm_at(market, number)", "firm_number(market, pairing)"],
    "middles": ["middle(market, pairings)", "apart(market, one, other)", "way(market, one, other)"],
    "switches": ["switches(market)", "sides(market, pairing)", "side_needs(market)", "pairing_by(market, sides)",
                 "broken_need(market, sides)"],
    "mates": ["mates(market, person)", "firm_within(market, bounds)", "bounds_clash(market, bounds)", "least_worst(market)",
              "place_clash(market, place)"],
    "calm": ["odd_count(market)", "most_paired(market)", "calm_pairing(market)", "is_calm(market, thing)",
             "calm_paper(market, number)", "may_be_left(market)", "surely_paired(market)"],
    "roads": ["fewest_leaving(market)", "left_by(market, pairing, one, other)", "road(market, pairing)",
              "is_road(market, pairing, thing)"],
    "fewer": ["without(market, person)", "changed_rings(market, person)", "changed_served(market, needs, person)",
              "odd_change(market, person)"],
    "otherrows": ["rerowed(market, person, row)", "odd_by_row(market, person, row)", "raised(market, person, other)",
                  "raising(market, person, other)"],
    "audits": ["result_for(notice)", "paper_for(notice)", "audit(notice_text, result_text, paper_text)"],
    "refusals": ["refusal(notice, result)", "is_refusal(notice, result, thing)"],
    "whynot": ["why_not(market, person, other)", "why_left(market, needs, person)",
               "why_not_share(market, pairing, person, other)"],
    "sessiontexts": ["write_session(session)", "read_session(text)"],
    "known": ["known_by(people, papers)", "fitting(people, known)", "turn(people, known)"],
    "sure": ["sure_rings(people, known)", "sure_things(people, known)", "two_worlds(people, known)",
             "are_two_worlds(people, known, thing)"],
    "asking": ["asked(market, asker)", "firm_asker(people, told)"],
}
CLASSES = {
    "markets": ("Market(people, wishes)", ["people()", "wishes()", "wants(person)", "__eq__(other)"]),
    "notices": ("Notice(rule, market, needs)", ["rule()", "market()", "needs()", "__eq__(other)"]),
    "alike": ("Steps(people, wishes)", ["people()", "wishes()", "__eq__(other)"]),
    "sessions": ("Session(rule)", ["rule()", "now()", "needs()", "notice()", "watched()", "do(deed)", "is_question(thing)",
                                   "answer(question)", "result()", "would(deed)", "count()", "deeds()", "undo()", "again()",
                                   "at(number)", "copy()", "trial(work)", "__eq__(other)"]),
}


def parts(told):
    name, parameters = told.rstrip(")").split("(")
    return name, parameters.split(", ") if parameters else []


class TestInterface(unittest.TestCase):
    def test_functions(self):
        for file, functions in FUNCTIONS.items():
            module = importlib.import_module("swaphouse." + file)
            for told in functions:
                name, parameters = parts(told)
                function = getattr(module, name)
                self.assertTrue(inspect.isfunction(function))
                self.assertEqual("swaphouse." + file, function.__module__)
                self.assertEqual(parameters, list(inspect.signature(function).parameters), name)

    def test_classes(self):
        for file, (told, methods) in CLASSES.items():
            name, parameters = parts(told)
            kind = getattr(importlib.import_module("swaphouse." + file), name)
            self.assertEqual("swaphouse." + file, kind.__module__)
            self.assertEqual(parameters, list(inspect.signature(kind).parameters))
            for method in methods:
                name, parameters = parts(method)
                self.assertIn(name, vars(kind))
                self.assertEqual(["self"] + parameters, list(inspect.signature(vars(kind)[name]).parameters))


if __name__ == "__main__":
    unittest.main()
