"""The interface: names, files, parameters, and which methods each class defines itself."""

import importlib
import inspect
import unittest

FUNCTIONS = {
    "noticetexts": ["notice_text(notice)", "read_notice(text)", "notice_fault(text)", "notice_goes_on(text)"],
    "resulttexts": ["result_text(result)", "read_result(text)", "result_fault(text)"],
    "papertexts": ["paper_text(paper)", "read_paper(text)", "paper_fault(text)"],
    "rings": ["rounds(market)", "firm_allotment(market)", "is_firm(market, thing)"],
    "bettering": ["bettering(market, allotment)", "is_bettering(market, allotment, thing)", "prices(market, allotment)",
                  "are_prices(market, allotment, thing)"],
    "closedlots": ["hangs_on(market, person)"],
    "alike": ["some_firm(steps)", "none_firm(steps)", "is_none_firm(steps, thing)", "count_alike(steps)",
              "alike_at(steps, number)"],
    "reach": ["could_get(market, person)", "result_by(market, person, other)", "swayed(market, person)",
              "two_rows(market, person, other)", "is_two_rows(market, person, other, thing)"],
    "chains": ["chain_to(market, person, other)", "is_chain_to(market, person, other, thing)"],
    "lying": ["lied(market, lies)", "losers(market, lies)", "together(market, things)"],
    "onlyrule": ["rule_fault(rule, people)", "is_rule_fault(rule, people, thing)"],
}
CLASSES = {
    "markets": ("Market(people, wishes)", ["people()", "wishes()", "wants(person)", "__eq__(other)"]),
    "notices": ("Notice(rule, market, needs)", ["rule()", "market()", "needs()", "__eq__(other)"]),
    "alike": ("Steps(people, wishes)", ["people()", "wishes()", "__eq__(other)"]),
}


def parts(told):
    name, parameters = told.rstrip(")").split("(")
    return name, parameters.split(", ") if parameters else []


class TestInterface(unittest.TestCase):
    def test_functions(self):
        for file, functions in FUNCTIONS.items():
            module = importlib.import_module("swaphouse." + file)
            for told in functions:
                name, parameters = parts(told)
                function = getattr(module, name)
                self.assertTrue(inspect.isfunction(function))
                self.assertEqual("swaphouse." + file, function.__module__)
                self.assertEqual(parameters, list(inspect.signature(function).parameters), name)

    def test_classes(self):
        for file, (told, methods) in CLASSES.items():
            name, parameters = parts(told)
            kind = getattr(importlib.import_module("swaphouse." + file), name)
            self.assertEqual("swaphouse." + file, kind.__module__)
            self.assertEqual(parameters, list(inspect.signature(kind).parameters))
            for method in methods:
                name, parameters = parts(method)
                self.assertIn(name, vars(kind))
                self.assertEqual(["self"] + parameters, list(inspect.signature(vars(kind)[name]).parameters))


if __name__ == "__main__":
    unittest.main()
