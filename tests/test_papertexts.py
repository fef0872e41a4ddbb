"""Points [13] and [14]: papers as texts."""

import random
import re
import time
import unittest

from examples import any_objects

from swaphouse.errors import BadPaper, BadText
from swaphouse.papertexts import paper_fault, paper_text, read_paper

PAPER_P = ("blocks", [("dan", ["bo"], [["dan"], ["eve"]])])
TEXT_P = "out dan without bo\nlot dan\nlot eve\n"
WORDS = ["rule", "person", "wants", "needs", "gets", "with", "ring", "out", "without", "lot", "watch", "hold"]
LINES = ("ring zz\n", "out zz\n", "out zz without zy\n", "lot zz\n", ", zz\n", " without zz\n")
TAILS = {more + line[at:] for more in ("", "q", "q7") for line in LINES for at in range(len(line) + 1)}
NAMES = "[a-z][a-z0-9]{0,7}(?:, [a-z][a-z0-9]{0,7})*"


def is_valid(text):
    """Whether a string is a paper's text, by the plain words of [13]."""
    if text == "":
        return True
    if not text.endswith("\n"):
        return False
    lines = text[:-1].split("\n")
    rings, blocks = [], []
    for line in lines:
        match = re.fullmatch("(ring|lot) (%s)|out ([a-z][a-z0-9]{0,7})(?: without (%s))?" % (NAMES, NAMES), line)
        if match is None:
            return False
        if match[1] == "ring":
            rings += match[2].split(", ")
        elif match[1] == "lot":
            if not blocks:
                return False
            blocks[-1][1].extend(match[2].split(", "))
        else:
            blocks.append((match[3], match[4].split(", ") if match[4] else []))
    outs = [person for person, _ in blocks]
    rows = [rings, outs] + [names for _, names in blocks]
    if any(len(set(row)) < len(row) or any(name in WORDS for name in row) for row in rows):
        return False
    return not (rings and blocks)


def goes_on(text):
    return any(is_valid(text + tail) for tail in TAILS)


def fault_by_trial(text):
    """The fault of a string, where no names run out."""
    line, sign = 1, 1
    for at in range(1, len(text) + 1):
        if not goes_on(text[:at]):
            return (line, sign)
        line, sign = (line + 1, 1) if text[at - 1] == "\n" else (line, sign + 1)
    return None if is_valid(text) else (line, sign)


class TestPaperTexts(unittest.TestCase):
    def check(self, text):
        fault = fault_by_trial(text)
        self.assertEqual(fault, paper_fault(text), text)
        if fault is None:
            self.assertEqual(text, paper_text(read_paper(text)))
            return
        with self.assertRaises(BadText) as caught:
            read_paper(text)
        self.assertEqual(fault, (caught.exception.line, caught.exception.sign))

    def test_example(self):
        self.assertEqual(TEXT_P, paper_text(PAPER_P))
        self.assertEqual(PAPER_P, read_paper(text=TEXT_P))
        self.assertEqual("ring ann, bo, cy\n", paper_text(paper=("rings", [["ann", "bo", "cy"]])))

    def test_papers_of_nothing(self):
        self.assertEqual("", paper_text(("rings", [])))
        self.assertEqual(("rings", []), read_paper(""))
        self.assertIsNone(paper_fault(text=""))

    def test_papers(self):
        papers = [("rings", [["b", "a"], ["c"]]), ("blocks", [("a", [], [])]), ("blocks", [("b", ["b"], []), ("a", [], [])]),
                  ("blocks", [("b", [], [["b", "c"], ["a"]]), ("a", ["c", "a"], [["b"]])]),
                  ("rings", [["n%d" % at for at in range(80)]])]
        for paper in papers:
            told = read_paper(paper_text(paper))
            self.assertEqual(paper, told)
            self.assertIsInstance(told, tuple)
            self.assertTrue(all(isinstance(part, list if paper[0] == "rings" else tuple) for part in told[1]))
        self.assertEqual("out b without c, a\nlot b, d\n", paper_text(["blocks", (["b", ("c", "a"), (("b", "d"),)],)]))

    def test_bad_paper(self):
        wrong = [("rings", [[]]), ("rings", [["a"], ["a"]]), ("rings", [["a", "a"]]), ("rings", ["a"]), ("rings", {}),
                 ("rings", [["A"]]), ("rings", [[["a"]]]), ("rings",), ("rings", [], []), ("blocks", []), ("blocks", {}),
                 ("blocks", [("a", [])]), ("blocks", [("a", [], [], [])]), ("blocks", [("a", "b", [])]),
                 ("blocks", [("a", [], [[]])]), ("blocks", [("a", ["b"], [["b"]])]), ("blocks", [("a", ["b", "b"], [])]),
                 ("blocks", [("a", [], [["b"], ["c", "b"]])]), ("blocks", [("a", [], []), ("a", [], [])]),
                 ("blocks", [("out", [], [])]), ("blocks", [(["a"], [], [])]), ("blocks", [("a", None, [])]),
                 ("blocks", [("a", [], None)]), ("blocks", ["abc"]), ("blocks", [("a", [1], [])]), ("lots", []),
                 ("blocks", {("a", (), ()): 0}), ("blocks", 5), ("blocks", None), ("lots", [("a", [], [])]), ("rings", 5),
                 ("blocks", [("a", [], "b")]), ("blocks", [("a", [], ["b"])]), ("blocks", [None]), ("rings", [None])]
        right = [("rings", []), ["rings", [["a"]]], ("blocks", [("a", [], [])])]
        for thing in wrong + [thing for thing in any_objects() if thing not in right]:
            with self.assertRaises(BadPaper) as caught:
                paper_text(thing)
            self.assertIs(thing, caught.exception.thing)

    def test_faults(self):
        cases = [("ring a\nout b\n", (2, 1)), ("ring a\nlot b\n", (2, 1)), ("out a\nring b\n", (2, 1)), ("lot a\n", (1, 1)),
                 ("\n", (1, 1)), ("lot a", (1, 1)), ("ring", (1, 5)), ("ring \n", (1, 6)), ("ring a, a\n", (1, 10)),
                 ("ring a\nout", (2, 1)), ("ring a\nring a\n", (2, 7)), ("out a\nring", (2, 1)), ("out a\nout a\n", (2, 6)),
                 ("out a without a\nlot a\n", (2, 6)), ("out a\nlot b\nlot b\n", (3, 6)), ("out a\nlot b, b\n", (2, 9)),
                 ("out a  ", (1, 7)), ("out a wit", (1, 10)), ("out a without\n", (1, 14)), ("out a without b,c", (1, 17)),
                 ("out rule\n", (1, 9)), ("out rule without", (1, 9)), ("o", (1, 2)), ("x", (1, 1)), ("ring a,\n", (1, 8)),
                 ("ring a , b", (1, 7)), ("out without\n", (1, 12)), ("out without without\n", (1, 12)),
                 ("out a without without\n", (1, 22))]
        for text, fault in cases:
            self.assertEqual(fault, paper_fault(text), text)
            self.assertEqual(fault, fault_by_trial(text), text)

    def test_names_run_out(self):
        signs = "abcdefghijklmnopqrstuvwxyz0123456789"
        names = ["abcdefg"] + ["abcdefg" + sign for sign in signs]
        self.assertEqual((38, 12), paper_fault("".join("ring " + name + "\n" for name in names) + "ring abcdefg"))
        self.assertEqual((38, 11), paper_fault("".join("out " + name + "\n" for name in names) + "out abcdefg without"))
        self.assertEqual((2, 11), paper_fault("out abcdefg without " + ", ".join(names) + "\nlot abcdefg"))
        self.assertEqual((3, 12), paper_fault("out a without " + ", ".join(names) + "\nout b\nlot abcdefg"))
        self.assertEqual((1, 23), paper_fault("ring abcdefgh, abcdefgh"))

    def test_no_string(self):
        for thing in any_objects():
            if not isinstance(thing, str):
                self.assertEqual((0, 0), paper_fault(thing))
                with self.assertRaises(BadText) as caught:
                    read_paper(thing)
                self.assertEqual((0, 0), (caught.exception.line, caught.exception.sign))

    def test_cut_off_and_with_each_sign_otherwise(self):
        chance = random.Random(5)
        for text in [TEXT_P, "ring b, a\nring cy\n", "out a\nout b without a, c\nlot d, a1\n"]:
            for at in range(len(text) + 1):
                self.check(text[:at])
                for sign in "\n ,abo" + chance.choice("w9Zlirt"):
                    self.check(text[:at] + sign + text[at + 1:])
                    self.check(text[:at] + sign)

    def test_eighty_promptly(self):
        began = time.time()
        names = ["n%d" % at for at in range(80)]
        paper = ("blocks", [(name, names[:20], [names[20:50], names[50:]]) for name in names[:40]])
        text = paper_text(paper)
        self.assertEqual(paper, read_paper(text))
        for at in range(0, len(text), 31):
            paper_fault(text[:at] + "#" + text[at:])
        self.assertEqual((1, 1), paper_fault("a" * 10 ** 6))
        self.assertLess(time.time() - began, 20)

    def test_told_anew(self):
        told = read_paper(TEXT_P)
        told[1][0][1].append("x")
        told[1][0][2][0].append("x")
        self.assertEqual(PAPER_P, read_paper(TEXT_P))


if __name__ == "__main__":
    unittest.main()
