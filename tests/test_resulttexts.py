"""Points [12] and [14]: results as texts."""

import random
import re
import time
import unittest

from examples import FIRM_N, any_objects

from swaphouse.errors import BadResult, BadText
from swaphouse.resulttexts import read_result, result_fault, result_text

TEXT_N = "ann gets cy\nbo gets ann\ncy gets bo\ndan gets eve\neve gets dan\n"
TEXT_P = "ann with cy\nbo with eve\n"
WORDS = ["rule", "person", "wants", "needs", "gets", "with", "ring", "out", "without", "lot", "watch", "hold"]
TAILS = {more + line[at:] for more in ("", "q", "q7") for line in (" gets zz\n", " with zz\n")
         for at in range(len(line) + 1)}


def is_valid(text):
    """Whether a string is a result's text, lines and pairs in whatever order, by the plain words of [12]."""
    if text == "":
        return True
    if not text.endswith("\n"):
        return False
    found = [re.fullmatch("([a-z][a-z0-9]{0,7}) (gets|with) ([a-z][a-z0-9]{0,7})", line)
             for line in text[:-1].split("\n")]
    if not all(found) or len({match[2] for match in found}) != 1:
        return False
    firsts = [match[1] for match in found]
    seconds = [match[3] for match in found]
    if any(name in WORDS for name in firsts + seconds) or any(match[1] == match[3] for match in found):
        return False
    if found[0][2] == "with":
        return len(set(firsts + seconds)) == 2 * len(firsts)
    return len(set(firsts)) == len(firsts) == len(set(seconds))


def goes_on(text):
    return any(is_valid(text + tail) for tail in TAILS)


def fault_by_trial(text):
    """The fault of a string, where no names run out."""
    line, sign = 1, 1
    for at in range(1, len(text) + 1):
        if not goes_on(text[:at]):
            return (line, sign)
        line, sign = (line + 1, 1) if text[at - 1] == "\n" else (line, sign + 1)
    return None if is_valid(text) else (line, sign)


class TestResultTexts(unittest.TestCase):
    def check(self, text):
        fault = fault_by_trial(text)
        self.assertEqual(fault, result_fault(text), text)
        if fault is not None:
            with self.assertRaises(BadText) as caught:
                read_result(text)
            self.assertEqual(fault, (caught.exception.line, caught.exception.sign))
            return
        pairs = [tuple(line.split(" ")[::2]) for line in text.split("\n")[:-1]]
        if " with " in text:
            self.assertEqual(("with", sorted((min(pair), max(pair)) for pair in pairs)), read_result(text))
        else:
            self.assertEqual(("gets", dict(pairs)), read_result(text))
            self.assertEqual(sorted(pairs), list(read_result(text)[1].items()))

    def test_example(self):
        result = ("gets", {name: thing for name, thing in FIRM_N.items() if name != thing})
        self.assertEqual(TEXT_N, result_text(result))
        self.assertEqual(result, read_result(text=TEXT_N))
        pairs = ("with", [("ann", "cy"), ("bo", "eve")])
        self.assertEqual(TEXT_P, result_text(result=pairs))
        self.assertEqual(pairs, read_result(TEXT_P))

    def test_kinds_of_what_is_told(self):
        told = read_result("b gets a\na gets c\n")
        self.assertEqual(("gets", {"a": "c", "b": "a"}), told)
        self.assertEqual(["a", "b"], list(told[1]))
        told = read_result("d with c\nb with a\n")
        self.assertIsInstance(told, tuple)
        self.assertIsInstance(told[1], list)
        self.assertEqual(("with", [("a", "b"), ("c", "d")]), told)
        self.assertIsNot(read_result("")[1], read_result("")[1])

    def test_nobody(self):
        self.assertEqual("", result_text(("gets", {})))
        self.assertEqual(("gets", {}), read_result(""))
        self.assertIsNone(result_fault(text=""))

    def test_in_whatever_order(self):
        self.assertEqual("a gets c\nb gets a\n", result_text(["gets", {"b": "a", "a": "c"}]))
        self.assertEqual("a with b\nc with d\n", result_text(["with", (["a", "b"], ("c", "d"))]))
        self.assertEqual(read_result("b with a\nd with c\n"), read_result("c with d\na with b\n"))

    def test_bad_result(self):
        wrong = [("with", []), ("gets", []), ("gets", {"a": "a"}), ("gets", {"a": "b", "c": "b"}), ("gets", {"a": None}),
                 ("gets", {"a": ["b"]}), ("gets", {1: "a"}), ("gets", {"rule": "a"}), ("gets", {"a": "A"}), ("gets",),
                 ("gets", {}, 0), ("with", {}), ("with", [("b", "a")]), ("with", [("a", "a")]), ("with", [("a", "b", "c")]),
                 ("with", [("c", "d"), ("a", "b")]), ("with", [("a", "b"), ("b", "c")]), ("with", [("a", "c"), ("b", "c")]),
                 ("with", {("a", "b"): 0}), ("with", None), ("gets", None), ("give", [("a", "b")]), ("with", [("A", "b")]),
                 ("with", [(["a"], "b")]), ("with", [("out", "w")]), ("with", [(0, 1)]), ("with", [("a", "B")]),
                 ("with", ["ab"]), ("with", [("a", [])]), ("with", [("a", "with")]), ("with", [("a", "b"), None]),
                 ("with", [("a", "b"), ("a", "b")]), ("give", {}), (["gets"], {}), "gets", {"gets": {}}]
        right = [("gets", {}), ["gets", {"a": "b"}], ("with", [("a", "b")])]
        for thing in wrong + [thing for thing in any_objects() if thing not in right]:
            with self.assertRaises(BadResult) as caught:
                result_text(thing)
            self.assertIs(thing, caught.exception.thing)

    def test_faults(self):
        cases = [("\n", (1, 1)), ("a", (1, 2)), ("a ", (1, 3)), ("a x", (1, 3)), ("a gets b", (1, 9)), ("a gets a\n", (1, 9)),
                 ("a gets b\na gets c", (2, 2)), ("a gets b\nc gets b\n", (2, 9)), ("a gets b\nc with", (2, 3)),
                 ("a with b\nb with c", (2, 2)), ("a with b\nc with a\n", (2, 9)), ("gets gets a", (1, 5)),
                 ("a  gets", (1, 3)), ("A", (1, 1)), ("abcdefghi", (1, 9)), ("a gets b c", (1, 9)), ("a gets b\r\n", (1, 9)),
                 ("a gets gets\n", (1, 12)), ("a gets b\n\n", (2, 1)), ("a gets b\n ", (2, 1)), ("a wi", (1, 5))]
        for text, fault in cases:
            self.assertEqual(fault, result_fault(text), text)
            self.assertEqual(fault, fault_by_trial(text), text)

    def test_names_run_out(self):
        signs = "abcdefghijklmnopqrstuvwxyz0123456789"
        names = ["abcdefg"] + ["abcdefg" + sign for sign in signs]
        self.assertEqual((1, 22), result_fault("abcdefgh gets abcdefgh"))
        self.assertEqual((1, 22), result_fault("abcdefgh with abcdefgh\n"))
        text = "".join("b%d gets %s\n" % (at, name) for at, name in enumerate(names))
        self.assertIsNone(result_fault(text))
        self.assertEqual((38, 15), result_fault(text + "zz gets abcdefg"))
        self.assertEqual((38, 8), result_fault(text + "abcdefg"))
        text = "".join("b%d with %s\n" % (at, name) for at, name in enumerate(names))
        self.assertEqual((38, 7), result_fault(text + "abcdefg"))
        text = "".join("b%d gets %s\n" % (at, name) for at, name in enumerate(names[:-1]))
        self.assertEqual((37, 21), result_fault(text + "abcdefg9 gets abcdefg"))
        self.assertEqual((37, 23), result_fault(text + "abcdefg8 gets abcdefg9"))

    def test_no_string(self):
        for thing in any_objects():
            if not isinstance(thing, str):
                self.assertEqual((0, 0), result_fault(thing))
                with self.assertRaises(BadText) as caught:
                    read_result(thing)
                self.assertEqual((0, 0), (caught.exception.line, caught.exception.sign))

    def test_cut_off_and_with_each_sign_otherwise(self):
        for text in ["ann gets cy\nb gets ann\n", "b with ann\nc with d\n", "a with b\n", "a gets b\nb gets a\nc gets d\n"]:
            for at in range(len(text) + 1):
                self.check(text[:at])
                for sign in "\n abw9Z":
                    self.check(text[:at] + sign + text[at + 1:])
                    self.check(text[:at] + sign)

    def test_lines_in_whatever_order(self):
        chance = random.Random(3)
        for many in range(5):
            for _ in range(40):
                names = ["a", "b", "c", "d", "e", "ab"]
                one, two = chance.sample(names, many), chance.sample(names, many)
                self.check("".join(first + " gets " + second + "\n" for first, second in zip(one, two)))
                self.check("".join(first + " with " + second + "\n" for first, second in zip(one, two)))

    def test_eighty_promptly(self):
        began = time.time()
        names = ["n%d" % at for at in range(160)]
        result = ("with", sorted((min(pair), max(pair)) for pair in zip(names[::2], names[1::2])))
        text = result_text(result)
        self.assertEqual(result, read_result(text))
        for at in range(len(text)):
            result_fault(text[:at] + "#" + text[at:])
        self.assertEqual((1, 9), result_fault("a" * 10 ** 6))
        self.assertLess(time.time() - began, 20)

    def test_what_is_passed_stays(self):
        told = {"b": "a", "a": "b"}
        result_text(("gets", told))
        self.assertEqual(["b", "a"], list(told))


if __name__ == "__main__":
    unittest.main()
