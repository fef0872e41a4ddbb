"""Points [10], [11] and [14]: notices as texts."""

import random
import time
import unittest

from examples import (any_objects, crowd, market_n, notice_n, notice_o, notice_p, notice_s, small_markets)

from swaphouse.errors import BadNotice, BadText
from swaphouse.markets import Market
from swaphouse.notices import Notice
from swaphouse.noticetexts import notice_fault, notice_goes_on, notice_text, read_notice

TEXT_N = """rule rings
person ann
person bo
person cy
person dan
person eve
person fay
ann wants cy, bo
bo wants ann, cy
cy wants bo
dan wants ann, eve
eve wants dan
fay wants ann
"""
TEXT_P = """rule pairs
person ann
person bo
person cy
person dan
person eve
ann wants bo, cy
bo wants ann, cy, dan, eve
cy wants ann, bo
dan wants bo
eve wants bo
needs eve, cy, ann, bo, dan
"""


def by_plain_trial(text):
    """A notice read line by line without looking for faults; None if the text is not just its text."""
    try:
        lines = text.split("\n")[:-1]
        people = [line[7:] for line in lines if line.startswith("person ")]
        wishes = {line.split(" wants ")[0]: line.split(" wants ")[1].split(", ") for line in lines if " wants " in line}
        needs = [line[6:].split(", ") for line in lines if line.startswith("needs ")]
        notice = Notice(lines[0][5:], Market(people, wishes), needs[0] if needs else [])
    except (ValueError, IndexError):
        return None
    return notice if notice_text(notice) == text else None


def place_behind(text):
    """Line and sign of the place one behind the last sign."""
    return (text.count("\n") + 1, len(text) - text.rfind("\n"))


def with_fault_at(text, place):
    """The signs of a text up to the one in a place; None if the place is behind the text."""
    lines = text.split("\n")
    at = sum(len(line) + 1 for line in lines[:place[0] - 1]) + place[1]
    return text[:at] if at <= len(text) else None


class TestNoticeTexts(unittest.TestCase):
    def check(self, text):
        """A text against all that is promised of any string, sign by sign of what it begins with."""
        fault = notice_fault(text)
        longer = notice_goes_on(text)
        if longer is not None:
            self.assertTrue(longer.startswith(text))
            self.assertIsNotNone(by_plain_trial(longer), longer)
        if by_plain_trial(text) is not None:
            self.assertIsNone(fault)
            self.assertEqual(text, notice_text(read_notice(text)))
            return
        with self.assertRaises(BadText) as caught:
            read_notice(text)
        self.assertEqual(fault, (caught.exception.line, caught.exception.sign))
        begun = with_fault_at(text, fault)
        if begun is None:
            self.assertEqual(place_behind(text), fault)
            self.assertIsNotNone(longer)
            return
        self.assertIsNone(longer)
        self.assertIsNone(notice_goes_on(begun))
        before = notice_goes_on(begun[:-1])
        self.assertIsNotNone(by_plain_trial(before))
        self.assertTrue(before.startswith(begun[:-1]))

    def test_example(self):
        self.assertEqual(TEXT_N, notice_text(notice_n()))
        self.assertEqual(TEXT_P, notice_text(notice=notice_p()))
        self.assertEqual("person cy", TEXT_N.split("\n")[3])
        self.assertEqual("ann wants cy, bo", notice_text(notice_n()).split("\n")[7])
        for notice in (notice_n(), notice_p(), notice_s(), notice_o()):
            self.assertEqual(notice, read_notice(text=notice_text(notice)))

    def test_nobody(self):
        for rule in ("rings", "pairs", "shares"):
            notice = Notice(rule, Market([], {}), [])
            self.assertEqual("rule " + rule + "\n", notice_text(notice))
            self.assertEqual(notice, read_notice("rule " + rule + "\n"))

    def test_one_person(self):
        self.assertEqual("rule pairs\nperson a\nneeds a\n", notice_text(Notice("pairs", Market(["a"], {}), ["a"])))

    def test_faults_of_the_document(self):
        self.assertIsNone(notice_fault(text="rule pairs\n"))
        self.assertEqual((3, 1), notice_fault("rule pairs\nperson a\n"))
        self.assertEqual((3, 1), notice_fault("rule rings\nperson ann\na"))
        two = "rule rings\nperson ann\nperson bo\n"
        self.assertEqual((4, 11), notice_fault(two + "ann wants a"))
        self.assertEqual((5, 1), notice_fault(two + "bo wants ann\nann"))

    def test_faults(self):
        cases = [("", (1, 1)), ("\n", (1, 1)), ("r", (1, 2)), ("rule", (1, 5)), ("rule x", (1, 6)), ("rule rings", (1, 11)),
                 ("rule rings\r\n", (1, 11)), ("rule rings\n\n", (2, 1)), ("rule rings\nx", (2, 1)),
                 ("rule rings\nperson", (2, 7)), ("rule rings\nperson \n", (2, 8)), ("rule rings\nperson 9", (2, 8)),
                 ("rule rings\nperson rule\n", (2, 12)), ("rule rings\nperson rulex", (2, 13)),
                 ("rule rings\nperson abcdefghi", (2, 16)), ("rule rings\nperson a\nperson a\n", (3, 9)),
                 ("rule rings\nperson abcdefgh\nperson abcdefgh", (3, 15)), ("rule pairs\nneeds", (2, 1)),
                 ("rule rings\nperson na\nperson b\nnee", (4, 2)), ("rule pairs\nperson na\nperson b\nnee", (4, 4)),
                 ("rule rings\nperson a\u00b2", (2, 9))]
        for text, fault in cases:
            self.assertEqual(fault, notice_fault(text), text)

    def test_lines_in_another_place(self):
        two = "person ann\nperson bo\n"
        cases = [("rule pairs\n" + two + "needs bo, ann\nperson cy\n", (5, 1)), ("rule rings\nneeds ann\n", (2, 1)),
                 ("rule pairs\n" + two + "needs bo, ann\nann wants bo\n", (5, 1)), ("rule pairs\nneeds \n", (2, 1)),
                 ("rule pairs\n" + two + "needs bo, ann\nneeds bo, ann\n", (5, 1)), ("rule pairs\nrule pairs\n", (2, 1)),
                 ("rule rings\n" + two + "needs bo, ann\n", (4, 1)), ("rule rings\n" + two + "ann\n", (4, 4)),
                 ("rule shares\n" + two + "bo wants ann\nperson cy\n", (5, 1)), ("person ann\n", (1, 1)),
                 ("rule shares\n" + two + "bo wants ann\nann wants bo\n", (5, 1)), ("rule shares\nann wants bo\n", (2, 1)),
                 ("rule shares\n" + two + "bo wants ann\nbo wants ann\n", (5, 1)),
                 ("rule shares\n" + two + "cy wants ann\n", (4, 1)), ("rule rings\n" + two + "ann wants cy\n", (4, 11))]
        for text, fault in cases:
            self.assertEqual(fault, notice_fault(text), text)
            self.check(text)

    def test_faults_of_rows(self):
        ahead = "rule pairs\nperson bo\nperson bob\nperson cy\n"
        cases = [("b", (5, 2)), ("bo ", (5, 4)), ("boc", (5, 3)), ("bo wants bo\n", (5, 12)), ("bo wants bob", (5, 13)),
                 ("bo wants \n", (5, 10)), ("bo wants bob,cy", (5, 14)), ("bo wants bob, cy,", (5, 17)),
                 ("bo wants bob, b", (5, 15)), ("bo wants bob\nperson", (6, 1)), ("bob wants bo\nbo", (6, 1)),
                 ("bob wants bo\nc", (6, 2)), ("cy wants bo\nneeds bo, cy\n", (6, 13)), ("needs cy, bo, bo\n", (5, 17)),
                 ("needs cy, bo, bob,", (5, 18)), ("needs cy, bo, bob\n\n", (6, 1)), ("needs cy, bo, bob\nn", (6, 1)),
                 ("needs bo, bo,", (5, 13)), ("needs bo, bob", (5, 14)), ("needs cy, c", (5, 11)), ("bo  wants", (5, 4))]
        for told, fault in cases:
            self.assertEqual(fault, notice_fault(ahead + told), told)
            self.check(ahead + told)

    def test_people_whose_names_run_out(self):
        signs = "abcdefghijklmnopqrstuvwxyz0123456789"
        names = ["abcdefg"] + ["abcdefg" + sign for sign in signs]
        text = "rule shares\n" + "".join("person " + name + "\n" for name in names[:-1])
        self.assertEqual((38, 15), notice_fault(text + "person abcdefg"))
        self.assertIn("person abcdefg9\n", notice_goes_on(text + "person abcdefg"))
        self.assertEqual((38, 15), notice_fault(text + "person abcdefg8"))
        text = text + "person abcdefg9\n"
        self.assertEqual((39, 14), notice_fault(text + "person abcdefg"))
        self.assertIsNone(notice_goes_on(text + "person abcdefg"))
        self.assertEqual((39, 14), notice_fault(text + "person abcdef"))
        words = "rule rings\n" + "".join("person without" + sign + "\n" for sign in signs)
        self.assertEqual((38, 14), notice_fault(words + "person without"))
        self.assertEqual((38, 14), notice_fault(words + "person withou"))

    def test_no_string(self):
        for thing in any_objects():
            if not isinstance(thing, str):
                self.assertEqual((0, 0), notice_fault(thing))
                self.assertIsNone(notice_goes_on(thing))
                with self.assertRaises(BadText) as caught:
                    read_notice(thing)
                self.assertEqual((0, 0), (caught.exception.line, caught.exception.sign))

    def test_no_notice(self):
        for thing in any_objects() + [market_n()]:
            if not isinstance(thing, Notice):
                with self.assertRaises(BadNotice) as caught:
                    notice_text(thing)
                self.assertIs(thing, caught.exception.thing)

    def test_one_text_each(self):
        texts = {}
        for market in small_markets(["a", "c", "b"]) + small_markets(["b"]) + small_markets([]):
            needs = sorted(market.people(), reverse=True)
            for notice in (Notice("rings", market, []), Notice("pairs", market, needs), Notice("shares", market, [])):
                text = notice_text(notice)
                self.assertEqual(notice, read_notice(text))
                self.assertNotIn(text, texts)
                texts[text] = True

    def test_cut_off_and_with_each_sign_otherwise(self):
        small = Market(["n", "ne", "per"], {"n": ["per"], "per": ["ne", "n"]})
        texts = [TEXT_N, TEXT_P, notice_text(Notice("pairs", small, ["ne", "n", "per"]))]
        for text in texts:
            for at in range(len(text) + 1):
                self.assertIsNotNone(notice_goes_on(text[:at]))
                self.check(text[:at])
        for at in range(len(texts[2])):
            for sign in "\n anwpe,9R\u00e9":
                self.check(texts[2][:at] + sign + texts[2][at + 1:])
                self.check(texts[2][:at] + sign)
                self.check(texts[2][:at] + texts[2][at + 1:])

    def test_no_longer_text_of_small_markets_behind_a_fault(self):
        texts = [notice_text(Notice(rule, market, ["b", "a", "bc"] if rule == "pairs" else []))
                 for market in small_markets(["a", "bc", "b"]) for rule in ("pairs", "rings")]
        begun = {text[:at] for text in texts for at in range(len(text) + 1)}
        chance = random.Random(7)
        for _ in range(2000):
            text = chance.choice(texts)
            at = chance.randrange(len(text))
            text = text[:at] + chance.choice("\nabc, w") + text[at + 1:]
            fault = notice_fault(text)
            stop = None if fault is None else with_fault_at(text, fault)
            self.assertEqual(stop is None, notice_goes_on(text) is not None)
            if stop is not None:
                self.assertNotIn(stop, begun)

    def test_sixty_people_promptly(self):
        names = crowd(60)
        wishes = {name: [other for other in names if other != name] for name in names}
        text = notice_text(Notice("pairs", Market(names, wishes), names))
        self.assertGreater(len(text), 20000)
        began = time.time()
        self.assertEqual(text, notice_text(read_notice(text)))
        for at in range(0, len(text), 97):
            self.assertEqual(place_behind(text[:at]), notice_fault(text[:at]))
            self.assertIsNotNone(notice_goes_on(text[:at]))
            self.assertIsNotNone(notice_fault(text[:at] + "-" + text[at + 1:]))
        self.assertIsNotNone(notice_fault("rule rings\nperson " + "a" * 10 ** 6))
        self.assertIsNotNone(notice_fault("rule rings\n" * 10 ** 5))
        self.assertLess(time.time() - began, 30)

    def test_told_anew(self):
        read_notice(TEXT_P).needs().pop()
        self.assertEqual(notice_p(), read_notice(TEXT_P))
        self.assertEqual(notice_goes_on("rule p"), notice_goes_on(text="rule p"))


if __name__ == "__main__":
    unittest.main()
