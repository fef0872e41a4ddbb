"""Points [14], [80] to [83], [86]: right results, papers for them, and audits."""

import random
import time
import unittest

from audittrials import all_results, all_ring_papers, audit_by_trial, right_by_trial, small_notices
from examples import any_objects, check_anew, check_things, crowd, notice_n, notice_o, notice_p, notice_s
from pairtrials import all_lots_papers, large_markets
from sharetrials import blocks, random_market, two_sides

from swaphouse.audits import audit, paper_for, result_for
from swaphouse.errors import BadNotice
from swaphouse.markets import Market
from swaphouse.notices import Notice
from swaphouse.noticetexts import notice_fault, notice_text
from swaphouse.papertexts import paper_fault, paper_text, read_paper
from swaphouse.resulttexts import read_result, result_fault, result_text

RESULT_N = "ann gets cy\nbo gets ann\ncy gets bo\ndan gets eve\neve gets dan\n"
PAPER_N = "ring ann, cy, bo\nring dan, eve\nring fay\n"
RESULT_P = "ann with cy\nbo with eve\n"
PAPER_P = "out dan without bo\nlot dan\nlot eve\n"
PAPER_O = "ring ann, bo, cy\n"


def audit_of(notice, result, paper):
    return audit(notice_text(notice), result_text(result), paper_text(paper))


def shares(rows):
    return Notice("shares", Market(sorted(rows), rows), [])


class TestAudits(unittest.TestCase):
    def check_right(self, notice):
        result = result_for(notice)
        paper = paper_for(notice)
        self.assertEqual(result, read_result(result_text(result)))
        self.assertEqual(paper, read_paper(paper_text(paper)))
        self.assertIsNone(audit_of(notice, result, paper))

    def told(self, case, notice, result, paper):
        """What audit tells of texts that have the form, held against a plain audit."""
        self.assertEqual((None, None), (result_fault(result), paper_fault(paper)))
        self.assertEqual(case, audit(notice_text(notice), result, paper))
        self.assertEqual(case, audit_by_trial(notice, result, paper))

    def test_right_ones(self):
        for notice in small_notices(random.Random(201), 60):
            right = right_by_trial(notice)
            self.assertIn(result_for(notice), right)
            self.check_right(notice)
            if notice.rule() != "shares":
                for result in right:
                    self.assertIsNone(audit_of(notice, result, paper_for(notice)))

    def test_it_holds_by_rings_and_shares(self):
        """A result is let by, with some paper, just where it is right."""
        for notice in small_notices(random.Random(202), 24):
            if notice.rule() != "pairs" and len(notice.market().people()) < 4:
                right = right_by_trial(notice)
                papers = [paper_text(paper) for paper in all_ring_papers(notice.market().people())]
                for result in all_results(notice):
                    told = [audit(notice_text(notice), result_text(result), paper) for paper in papers]
                    self.assertEqual([audit_by_trial(notice, result_text(result), paper) for paper in papers], told)
                    self.assertEqual(result in right, None in told)

    def test_it_holds_by_shares_of_four(self):
        papers = [paper_text(paper) for paper in all_ring_papers("abcd") if sum(map(len, paper[1])) == 4]
        for market in [random_market(random.Random(number), list("abcd"), 0.9) for number in range(6)]:
            notice = Notice("shares", market, [])
            right = right_by_trial(notice)
            for result in all_results(notice):
                told = [audit(notice_text(notice), result_text(result), paper) for paper in papers]
                self.assertEqual(result in right, None in told)

    def test_it_holds_by_pairs(self):
        """Each who is left has a block that is let by just where the result is right."""
        for notice in small_notices(random.Random(204), 40):
            if notice.rule() == "pairs":
                names = notice.market().people()
                right = right_by_trial(notice)
                lots = list(all_lots_papers(names))
                for result in all_results(notice):
                    served = [name for pair in result[1] for name in pair]
                    told = [[self.block_told(notice, result, name, few, some) for few, some in lots] for name in names if name not in served]
                    fine = all(True in row for row in told) if told else audit_of(notice, result, ("rings", [])) is None
                    self.assertEqual(result in right, fine)

    def block_told(self, notice, result, name, few, lots):
        told = audit_of(notice, result, ("blocks", [(name, few, lots)]))
        return told is None or told[3] == "lacks"

    def test_texts_nearly_right(self):
        chance = random.Random(205)
        notices = [notice for notice in small_notices(chance, 120) if len(notice.market().people()) > 2]
        many = {}
        for notice in notices * 4:
            result, paper = result_text(result_for(notice)), paper_text(paper_for(notice))
            for _ in range(8):
                told = [self.changed(chance, text) for text in (result, paper)]
                if chance.random() < 0.8:
                    told[0] = result
                if result_fault(told[0]) is None and paper_fault(told[1]) is None:
                    first = audit(notice_text(notice), *told)
                    self.assertEqual(audit_by_trial(notice, *told), first)
                    many[first and first[3]] = True
        words = {"who", "wish", "deal", "other", "early", "tie", "turned", "leave", "served", "lot", "few", "lacks", None}
        self.assertLessEqual(words, set(many))

    def changed(self, chance, text):
        """A text some lines or names of which are otherwise."""
        lines = text.split("\n")[:-1]
        names = sorted(set(text.replace(",", " ").replace("\n", " ").split()) - set("gets with ring out lot without".split())) + ["a", "zed"]
        if lines and chance.random() < 0.4:
            lines.pop(chance.randrange(len(lines)))
        chance.shuffle(lines)
        if lines and chance.random() < 0.4:
            lines[-1] = lines[-1].replace(chance.choice(names), chance.choice(names))
        if chance.random() < 0.2:
            lines = [" ".join(lines).replace(" ring ", ", ")] if text.startswith("ring") else lines + ["out zed", "lot a"]
        return "".join(line + "\n" for line in lines)

    def test_example(self):
        self.assertEqual((RESULT_N, PAPER_N), (result_text(result_for(notice=notice_n())), paper_text(paper_for(notice=notice_n()))))
        self.assertIsNone(audit(notice_text=notice_text(notice_n()), result_text=RESULT_N, paper_text=PAPER_N))
        self.told(("paper", 1, 6, "early"), notice_n(), RESULT_N, "ring dan, eve\nring ann, cy, bo\nring fay\n")
        self.told(None, notice_p(), RESULT_P, PAPER_P)
        self.told(None, notice_o(), "", PAPER_O)
        self.assertEqual(("gets", {}), result_for(notice_o()))
        for notice in (notice_n(), notice_p(), notice_s(), notice_o()):
            self.check_right(notice)

    def test_forms(self):
        texts = [notice_text(notice_n()), RESULT_N, PAPER_N]
        for at, which in enumerate(["notice", "result", "paper"]):
            fault = [notice_fault, result_fault, paper_fault][at]
            for wrong in [thing for thing in any_objects() if fault(thing) is not None] + [texts[at][:-1], texts[at] + "x", "ann gets\n"]:
                told = [wrong if number >= at else text for number, text in enumerate(texts)]
                self.assertEqual((which,) + fault(wrong) + ("form",), audit(*told))
        self.assertEqual(("notice", 0, 0, "form"), audit(None, None, None))
        self.assertEqual(("result", 1, 9, "form"), audit(texts[0], "ann gets\n", 0))
        self.assertEqual(("paper", 0, 0, "form"), audit(texts[0], "zed gets ann\n", 7))

    def test_words_of_results(self):
        cases = [("ann with cy\nzed with bo\n", (1, 1, "kind")), ("zed gets ann\n", (1, 1, "who")), ("ann gets zed\n", (1, 10, "who")),
                 ("bo gets ann\nann gets zed\n", (2, 10, "who")), ("ann gets cy\nbo gets dan\nzed gets bo\n", (2, 9, "wish")),
                 ("ann gets dan\n", (1, 10, "wish")), ("ann gets cy\n", (1, 1, "deal")), ("cy gets bo\nfay gets ann\n", (1, 1, "deal")),
                 ("dan gets eve\neve gets dan\nann gets cy\nbo gets ann\n", (4, 1, "deal")), ("ann gets cy\nzed gets bo\n", (2, 1, "who"))]
        for text, fault in cases:
            self.told(("result",) + fault, notice_n(), text, "out zed\n")
        cases = [("ann gets cy\n", (1, 1, "kind")), ("ann with cy\nbo with zed\n", (2, 9, "who")), ("zed with ann\n", (1, 1, "who")),
                 ("dan with eve\n", (1, 10, "wish")), ("eve with ann\n", (1, 10, "wish")), ("bo with dan\nann with eve\n", (2, 10, "wish"))]
        for text, fault in cases:
            self.told(("result",) + fault, notice_p(), text, "ring zed\n")
        # By shares both must want one another, too: dan names cy, who does not name it.
        notice = shares({"ann": ["bo"], "bo": ["ann"], "cy": [], "dan": ["cy"]})
        self.told(("result", 2, 10, "wish"), notice, "ann with bo\ndan with cy\n", "")

    def test_words_of_rings(self):
        cases = [("out ann\nlot ann\n", (1, 1, "kind")), ("ring zed\n", (1, 6, "who")), ("ring ann, zed\n", (1, 6, "other")),
                 ("ring ann, cy, zed\n", (1, 11, "other")), ("ring ann, cy, bo\nring zed\n", (2, 6, "who")), ("ring bo, ann, cy\n", (2, 1, "lacks")),
                 ("ring ann, cy, bo\nring eve, dan\nring zed\n", (3, 6, "who")), ("ring fay\n", (1, 6, "early")), ("", (1, 1, "lacks")),
                 ("ring ann\n", (1, 6, "other")), ("ring eve, dan\n", (1, 11, "early")), ("ring bo, cy\n", (1, 6, "other")),
                 ("ring cy, bo, ann\nring fay\nring eve, dan\n", None), ("ring cy, bo, ann\nring fay\n", (3, 1, "lacks"))]
        for text, fault in cases:
            self.told(fault and ("paper",) + fault, notice_n(), RESULT_N, text)

    def test_words_of_shares(self):
        o, s = notice_o(), notice_s()
        cases = [(o, "", "out ann\n", (1, 1, "kind")), (o, "", "ring zed\n", (1, 6, "who")), (o, "", "ring ann, zed\n", (1, 6, "tie")),
                 (o, "", "ring ann, cy, bo\n", (1, 6, "turned")), (o, "", "ring ann, bo\nring cy\n", (2, 6, "leave")),
                 (o, "", "ring ann, bo, zed\n", (1, 11, "tie")), (o, "ann with bo\n", PAPER_O, (2, 1, "odd")), (o, "", "ring ann\nring bo\n", (2, 6, "leave")),
                 (o, "", "ring ann\n", (2, 1, "lacks")), (s, "ann with bo\ncy with dan\n", "ring ann, bo\nring cy, dan\n", None),
                 (s, "ann with bo\ncy with dan\n", "ring ann, dan\nring bo, cy\n", (1, 6, "other")), (s, "", "ring ann, cy\n", (1, 6, "tie")),
                 (s, "ann with bo\ncy with dan\n", "ring dan, ann\nring bo\n", (2, 6, "leave")), (s, "", "ring ann, bo\n", (1, 6, "other")),
                 (s, "ann with bo\n", "ring ann, bo\nring cy, dan\n", (2, 6, "other")), (s, "", "ring ann, bo, cy, dan\n", (1, 1, "even"))]
        for notice, result, paper, fault in cases:
            self.told(fault and ("paper",) + fault, notice, result, paper)
        # An odd ring lacks somebody ahead of its being odd; no pair is held against the result where a line has three.
        notice = shares({"a": ["b", "c"], "b": ["c", "a"], "c": ["a", "b"], "d": ["e"], "e": ["d"]})
        self.told(("paper", 2, 1, "lacks"), notice, "d with e\n", "ring a, b, c\n")
        self.told(("paper", 3, 1, "odd"), notice, "d with e\n", "ring d, e\nring a, b, c\n")
        self.told(None, notice, "", "ring d, e\nring b, c, a\n")
        self.told(("paper", 3, 6, "leave"), notice, "", "ring b, c, a\nring e\nring d\n")

    def test_words_of_pairs(self):
        cases = [("ring dan\n", (1, 1, "kind")), ("out zed\n", (1, 5, "who")), ("out dan without bo, zed\n", (1, 21, "who")),
                 ("out ann\nlot zed\n", (1, 5, "served")), ("out dan without bo\nlot zed\n", (2, 5, "who")), ("out dan\nlot dan\n", (2, 5, "tie")),
                 ("out dan without bo\nlot dan, eve\n", (2, 1, "even")), ("out dan without bo\nlot dan\n", (1, 1, "few")),
                 ("out dan without bo\nlot dan\nout zed\n", (1, 1, "few")), ("out dan\nlot ann\n", (2, 5, "tie")), ("out dan\n", (1, 1, "few")),
                 ("", (1, 1, "lacks")), ("out dan without bo\nlot eve\nlot dan\n", None), ("out dan without bo\nlot dan\nlot eve, zed\n", (3, 10, "who")),
                 ("out dan without bo\nlot dan\nlot eve\nout bo\n", (4, 5, "served")), ("out dan without cy, bo\nlot dan\nlot eve\nlot ann\n", None)]
        for text, fault in cases:
            self.told(fault and ("paper",) + fault, notice_p(), RESULT_P, text)
        # dan is needier than eve: nobody may stand in a lot for the one ahead of it.
        notice = Notice("pairs", notice_p().market(), ["ann", "cy", "dan", "eve", "bo"])
        self.told(("paper", 3, 5, "lot"), notice, "ann with cy\nbo with eve\n", "out dan without bo\nlot dan\nlot eve\n")
        self.told(("paper", 3, 5, "lot"), notice, "ann with cy\n", "out dan without bo\nlot dan\nlot eve\n")
        self.told(None, notice, "ann with cy\nbo with dan\n", "out eve without bo\nlot eve\nlot dan\n")
        alone = Notice("pairs", Market(["a", "b"], {}), ["b", "a"])
        self.told(None, alone, "", "out a\nlot a\nout b\nlot b\n")
        self.told(("paper", 3, 1, "lacks"), alone, "", "out a\nlot a\n")
        self.told(("paper", 3, 5, "lot"), alone, "", "out a\nlot a\nlot b\n")

    def test_edges(self):
        for rule in ("rings", "pairs", "shares"):
            notice = Notice(rule, Market([], {}), [])
            self.assertEqual((("gets", {}), ("rings", [])), (result_for(notice), paper_for(notice)))
            self.assertIsNone(audit("rule " + rule + "\n", "", ""))
            notice = Notice(rule, Market(["a"], {}), ["a"] if rule == "pairs" else [])
            self.check_right(notice)
            self.assertEqual(("gets", {}), result_for(notice))
        self.assertEqual(("blocks", [("a", [], [["a"]])]), paper_for(Notice("pairs", Market(["a"], {}), ["a"])))

    def test_wrong(self):
        for function in (result_for, paper_for):
            check_things(self, BadNotice, function, lambda thing: isinstance(thing, Notice))

    def test_told_anew(self):
        for notice in (notice_n(), notice_p(), notice_s(), notice_o()):
            check_anew(self, result_for, notice)
            check_anew(self, paper_for, notice)
            again = Notice(notice.rule(), notice.market(), tuple(notice.needs()))
            self.assertEqual((result_for(notice), paper_for(notice)), (result_for(again), paper_for(again)))

    def test_promptly(self):
        began = time.time()
        chance = random.Random(206)
        markets = [random_market(chance, crowd(60), part) for part in (0.05, 0.3, 1)] + large_markets(chance, 60) + [blocks(15), two_sides(30)]
        for market in markets:
            self.check_right(Notice("rings", market, []))
            self.check_right(Notice("pairs", market, chance.sample(market.people(), len(market.people()))))
            self.check_right(Notice("shares", market, []))
        names = crowd(60)
        odd = {name: [names[at // 3 * 3 + (at + 1) % 3], names[at // 3 * 3 + (at + 2) % 3]] for at, name in enumerate(names)}
        self.check_right(Notice("shares", Market(names, odd), []))
        every = Notice("rings", Market(names, {one: [two for two in names if two != one] for one in names}), [])
        self.assertEqual(("paper", 1, 6, "early"), audit(notice_text(every), result_text(result_for(every)),
                                                         paper_text(("rings", paper_for(every)[1][::-1]))))
        self.assertLess(time.time() - began, 60)


if __name__ == "__main__":
    unittest.main()
