"""Points [94], [95]: sessions as texts."""

import random
import time
import unittest

from examples import any_objects, check_things, crowd, market_n, notice_n, refused
from sessiontrials import Plain, random_deed, session_by
from test_noticetexts import by_plain_trial, place_behind, with_fault_at
from test_sessions import session_n

from swaphouse.errors import BadSession, BadText
from swaphouse.noticetexts import notice_goes_on, notice_text
from swaphouse.sessions import Session
from swaphouse.sessiontexts import read_session, write_session

TEXT_N = notice_text(notice_n()) + "hold gets dan\n"
ALL_N = ["many"] + [f"{word} {name}" for name in market_n().people() for word in ("served", "spare", "gets")]


def parts(text):
    """The pair of the notice's lines and of the lines of what is watched."""
    lines = text.split("\n")
    at = min([number for number, line in enumerate(lines) if line.startswith(("watch ", "hold "))], default=len(lines) - 1)
    return "".join(line + "\n" for line in lines[:at]), lines[at:-1], lines[-1]


def is_valid(text):
    """Whether a string is a session's text, by plain trial."""
    if not isinstance(text, str) or not text.endswith("\n"):
        return False
    ahead, lines, _ = parts(text)
    notice = by_plain_trial(ahead)
    if notice is None:
        return False
    plain = Plain(notice.rule(), notice.market().people())
    told = [tuple(line.split(" ")[1:]) for line in lines]
    fine = all(line.split(" ")[0] in ("watch", "hold") and question in plain.questions() for line, question in zip(lines, told))
    return fine and len(set(told)) == len(told)


def goes_on(text):
    """Whether some session's text begins with a string, by trial of all lines."""
    if is_valid(text) or notice_goes_on(text) is not None:
        return True
    head, _, last = text.rpartition("\n")
    if not is_valid(head + "\n"):
        return False
    plain = Plain(by_plain_trial(parts(head + "\n")[0]).rule(), by_plain_trial(parts(head + "\n")[0]).market().people())
    lines = [" ".join((word,) + question) + "\n" for word in ("watch", "hold") for question in plain.questions()]
    return any(line.startswith(last) and is_valid(head + "\n" + line) for line in lines)


class TestSessionTexts(unittest.TestCase):
    def check(self, text):
        if is_valid(text):
            session = read_session(text)
            self.assertEqual(text, write_session(session))
            self.assertEqual((0, None), (session.count(), session.undo()))
            return
        error = refused(self, BadText, read_session, text)
        fault = (error.line, error.sign)
        begun = with_fault_at(text, fault)
        if begun is None:
            self.assertEqual(place_behind(text), fault)
            self.assertTrue(goes_on(text), text)
        else:
            self.assertFalse(goes_on(begun), text)
            self.assertTrue(goes_on(begun[:-1]), text)

    def fault(self, text):
        error = refused(self, BadText, read_session, text)
        return (error.line, error.sign)

    def test_example(self):
        self.assertEqual(TEXT_N, write_session(session=session_n()))
        session = read_session(text=TEXT_N)
        self.assertEqual(session_n(), session)
        self.assertEqual((0, [], None), (session.count(), session.deeds(), session.again()))
        session.do(("want", "ann", ["bo"]))
        self.assertEqual(1, session.count())

    def test_there_and_back(self):
        chance = random.Random(251)
        for number in range(150):
            plain = Plain(("rings", "pairs", "shares")[number % 3])
            for _ in range(25):
                deed = random_deed(chance, plain, 0)
                if plain.outcome(deed)[0] == "done" and (len(plain.people) < 5 or deed[0] != "come"):
                    plain = plain.behind(deed)
            session = session_by(plain)
            text = write_session(session)
            self.assertTrue(is_valid(text))
            self.assertEqual(session, read_session(text))
            self.assertEqual(session.watched(), read_session(text).watched())
            lines = [("hold " if held else "watch ") + " ".join(question) + "\n" for question, held in plain.watched]
            self.assertEqual(notice_text(plain.notice()) + "".join(lines), text)

    def test_faults(self):
        ahead = "rule pairs\nperson ann\nperson bo\n"
        needs = "needs bo, ann\n"
        cases = [("rule rings\nw", (2, 2)), ("rule rings\nwatch firm\n", (2, 7)), ("rule shares\nwatch many\nhold many\n", (3, 6)),
                 ("rule shares\nhold firm\nhold many\nx", (4, 1)), ("rule shares\nhold firm\nhold many\nh", (4, 1)), ("rule shares\nhold firm\nh", (3, 2)),
                 ("rule rings\nwatch many \n", (2, 11)), ("rule rings\nhold  many\n", (2, 6)), ("rule rings\nhold many\nperson ann\n", (3, 1)),
                 (ahead + "watch many\n", (4, 1)), (ahead + needs + "watch gets ann\n", (5, 7)), (ahead + needs + "watch served cy\n", (5, 14)),
                 (ahead + needs + "watch served ann\nwatch served a", (6, 14)), (ahead + needs + "hold spare bo\nhold spare bo\n", (6, 12)),
                 (ahead + needs + "watch many\nbo wants ann\n", (6, 1)), (ahead + needs + "watch m", (5, 8)), (ahead + needs + "watch", (5, 6)),
                 (ahead + needs + "watch served anne\n", (5, 17)), ("watch many\n", (1, 1)), ("", (1, 1)), ("rule rings\nperson hold\n", (2, 12)),
                 ("rule rings\nperson holdx\nhold", (3, 5)), ("rule rings\nperson holdx\nperson b\nholdx wants b\nhold ", (5, 6))]
        for text, fault in cases:
            self.assertEqual(fault, self.fault(text), text)
            self.check(text)

    def test_cut_off_and_with_each_sign_otherwise(self):
        pairs = "rule pairs\nperson hold1\nperson wat\nwat wants hold1\nneeds wat, hold1\nhold spare wat\nwatch many\nwatch served hold1\n"
        rings = "rule rings\nperson a\nperson b\na wants b\nhold gets b\nwatch spare a\n"
        shares = "rule shares\nperson a\nhold firm\nhold many\n"
        for text in (TEXT_N, pairs, rings, shares):
            for at in range(len(text) + 1):
                self.check(text[:at])
        for text in (pairs, rings, shares):
            for at in range(len(text)):
                for sign in "\n amwhb,9":
                    self.check(text[:at] + sign + text[at + 1:])
                    self.check(text[:at] + sign)
                    self.check(text[:at] + sign + text[at:])
                self.check(text[:at] + text[at + 1:])

    def test_nobody_and_all_questions(self):
        for rule in ("rings", "pairs", "shares"):
            self.assertEqual(f"rule {rule}\n", write_session(Session(rule)))
            self.assertEqual(Session(rule), read_session(f"rule {rule}\n"))
        text = notice_text(notice_n()) + "".join(f"watch {told}\n" for told in ALL_N)
        self.assertEqual(text, write_session(read_session(text)))
        self.assertEqual((len(text.split("\n")), 1), self.fault(text + "w"))

    def test_one_text_each(self):
        """Whoever is held, or watched, in whatever order, has a text of its own."""
        chance = random.Random(252)
        texts = {}
        for _ in range(300):
            told = chance.sample(["many", "served a", "spare a", "gets a"], chance.randint(0, 4))
            text = "rule rings\nperson a\n" + "".join(chance.choice(["watch ", "hold "]) + one + "\n" for one in told)
            session = read_session(text)
            for other, kept in texts.items():
                self.assertEqual(other == text, kept == session)
            if len(texts) < 40:
                texts[text] = session

    def test_wrong(self):
        check_things(self, BadSession, write_session, lambda thing: isinstance(thing, Session))
        for thing in any_objects():
            if not isinstance(thing, str):
                self.assertEqual((0, 0), self.fault(thing))
            else:
                self.check(thing)

    def test_long_ones_promptly(self):
        began = time.time()
        names = crowd(300)
        text = "rule rings\n" + "".join(f"person {name}\n" for name in names) + "".join(f"hold gets {name}\n" for name in names[:-1])
        self.assertEqual(place_behind(text + "hold gets "), self.fault(text + "hold gets "))
        self.assertEqual((601, 1), self.fault(text + "x"))
        self.assertEqual((2, 1), self.fault("rule rings\n" * 10 ** 5))
        self.assertEqual((2, 7), self.fault("rule rings\nwatch " + "a" * 10 ** 6))
        for at in range(0, len(TEXT_N), 3):
            self.fault(TEXT_N[:at] + "-" + TEXT_N[at + 1:])
        self.assertLess(time.time() - began, 30)


if __name__ == "__main__":
    unittest.main()
