"""Points [87] to [93], [95]: sessions."""

import random
import time
import unittest

from audittrials import right_by_trial
from examples import any_objects, check_things, market_n, mutable_in, refused
from pairtrials import pairings_by_trial
from sessiontrials import Plain, random_deed, session_by
from sharetrials import parties_by_trial

from swaphouse import errors
from swaphouse.errors import (BadDeed, BadName, BadPlace, BadQuestion, BadRow, BadRule, InUse, IsWatched, NoCount, NotWatched,
                              SwapError, WouldChange)
from swaphouse.firmness import party_fault, share_fault
from swaphouse.markets import Market
from swaphouse.notices import Notice
from swaphouse.pairings import pairing_fault
from swaphouse.rings import rounds
from swaphouse.serving import is_serve_paper
from swaphouse.sessions import Session

RULES = ("rings", "pairs", "shares")


def deed_kept(deed):
    return tuple(tuple(part) if isinstance(part, list) else part for part in deed)


def session_n():
    """N of [14], put in by come and want, ("gets", "dan") held."""
    session = Session("rings")
    for name in market_n().people():
        session.do(("come", name, []))
    for name, row in market_n().wishes().items():
        session.do(("want", name, row))
    session.do(("hold", ("gets", "dan")))
    return session


def picture(session):
    """All that a session tells."""
    return (session.rule(), session.now(), session.needs(), session.notice(), session.watched(), session.count(), session.deeds())


class TestSessions(unittest.TestCase):
    def check_state(self, session, plain):
        self.assertEqual(plain.rule, session.rule())
        self.assertEqual(plain.notice().market(), session.now())
        self.assertEqual(plain.needs, session.needs())
        self.assertEqual(plain.notice(), session.notice())
        self.assertEqual(plain.answers(), session.watched())

    def check_asked(self, session, plain):
        for question in plain.questions():
            answer = session.answer(question)
            self.assertEqual(plain.answer(question), answer)
            self.assertIs(type(plain.answer(question)), type(answer))
            self.assertTrue(session.is_question(list(question)))
        right = right_by_trial(plain.notice())
        self.assertIn(session.result(), right)

    def told(self, session, deed):
        """What do tells, as a plain session's outcome."""
        try:
            return ("done", session.do(deed)), None
        except SwapError as error:
            told = {"BadRow": "index", "InUse": "question", "IsWatched": "question", "NotWatched": "question", "WouldChange": "question"}
            return (type(error).__name__, getattr(error, told.get(type(error).__name__, "thing"))), error

    def check_would(self, session, plain, deed):
        """would tells what do does, and changes nothing."""
        before = picture(session)
        expected = plain.outcome(deed)
        if expected[0] in ("done", "WouldChange"):
            self.assertEqual(plain.changes(plain.behind(deed)), session.would(deed))
        else:
            error = refused(self, getattr(errors, expected[0]), session.would, deed)
            self.assertIn(expected[1], vars(error).values())
        self.assertEqual(before, picture(session))

    def check_do(self, session, plain, deed):
        """The plain session behind the deed, the same one if the deed is refused."""
        expected = plain.outcome(deed)
        before = picture(session)
        passed = [list(part) if isinstance(part, list) else part for part in deed]
        told, error = self.told(session, deed)
        self.assertEqual(expected, told)
        self.assertEqual(passed, list(deed))
        if error is None:
            self.assertEqual(before[-1] + [deed_kept(deed)], session.deeds())
            self.assertTrue(all(isinstance(change, tuple) and isinstance(change[0], tuple) for change in told[1]))
            plain = plain.behind(deed)
        else:
            self.assertEqual(before, picture(session))
            if expected[0] in ("BadDeed", "BadName", "BadPlace", "BadQuestion"):
                self.assertIs(error.thing, deed if expected[0] == "BadDeed" else deed[2] if expected[0] == "BadPlace" else deed[1])
            if expected[0] == "WouldChange":
                self.check_why(plain, plain.behind(deed), error)
        self.check_state(session, plain)
        return plain

    def check_why(self, plain, behind, error):
        """By the words of [91]."""
        question, why = error.question, error.why
        self.assertIsInstance(question, tuple)
        ahead, now = plain.answer(question), behind.answer(question)
        market = behind.notice().market()
        if plain.rule == "pairs" and question[0] == "served":
            needier = [name for name in behind.needs[:behind.needs.index(question[1])] if name in behind.served()]
            if ahead:
                self.assertTrue(is_serve_paper(market, needier + [question[1]], why))
            else:
                self.assertIn(why, pairings_by_trial(market))
                self.assertTrue(all(why[name] is not None for name in needier + [question[1]]))
        elif question[0] == "gets":
            self.assertEqual([ring for told in rounds(market) for ring in told], why)
        elif question == ("firm",):
            self.assertIsNone(party_fault(market, why) if ahead else share_fault(market, why))
            if ahead:
                self.assertTrue(why in parties_by_trial(market) and any(why[why[name]] != name for name in why))
        else:
            self.assertEqual((ahead, now), why)

    def test_random_deeds(self):
        chance = random.Random(241)
        seen = set()
        for number in range(180):
            plain = Plain(RULES[number % 3])
            session = Session(plain.rule)
            for _ in range(30):
                deed = random_deed(chance, plain, 0.12)
                if len(plain.people) >= 4 and deed[:1] in (("come",), ["come"]) or len(plain.watched) > 3 and deed[0] in ("watch", "hold"):
                    continue
                self.check_would(session, plain, deed)
                seen.add((plain.rule, plain.outcome(deed)[0]))
                plain = self.check_do(session, plain, deed)
            self.check_asked(session, plain)
        words = {"done", "BadDeed", "BadName", "BadRow", "BadPlace", "BadQuestion", "IsWatched", "NotWatched", "InUse", "WouldChange"}
        self.assertEqual({(rule, word) for rule in RULES for word in words}, seen)

    def test_why(self):
        """Each question that is answered otherwise, from True and from False, by each rule."""
        chance = random.Random(245)
        seen = {}
        while len(seen) < 17 or min(seen.values()) < 4:
            plain = Plain(chance.choice(RULES))
            for name in chance.sample("abcd", chance.randint(3, 4)):
                plain = plain.behind(("come", name, []))
            for name in plain.people:
                others = [other for other in plain.people if other != name]
                plain = plain.behind(("want", name, chance.sample(others, chance.randint(1, len(others)))))
            plain = plain.behind(("hold", chance.choice(plain.questions())))
            session = session_by(plain)
            for _ in range(6):
                deed = random_deed(chance, plain, 0)
                if plain.outcome(deed)[0] == "WouldChange":
                    error = refused(self, WouldChange, session.do, deed)
                    self.assertEqual(plain.watched[0][0], error.question)
                    self.check_why(plain, plain.behind(deed), error)
                    answer = plain.answer(error.question)
                    key = (plain.rule, error.question[0], answer if isinstance(answer, bool) else answer is None)
                    seen[key] = seen.get(key, 0) + 1
        told = {("pairs", "served", True), ("pairs", "served", False), ("shares", "firm", True), ("shares", "firm", False)}
        self.assertLessEqual(told, set(seen))

    def test_example(self):
        session = session_n()
        self.assertEqual(market_n(), session.now())
        self.assertEqual([], session.do(deed=("want", "ann", ["bo"])))
        error = refused(self, WouldChange, session.do, ("want", "eve", []))
        self.assertEqual(("gets", "dan"), error.question)
        self.assertIn(["dan"], error.why)
        self.assertEqual(("gets", "dan"), refused(self, InUse, session.do, ("carry",)).question)
        self.assertEqual([], session.do(("free", ("gets", "dan"))))
        self.assertEqual([], session.do(("carry",)))
        self.assertEqual(["cy", "fay"], session.now().people())

    def test_nobody(self):
        for rule in RULES:
            session = Session(rule=rule)
            self.assertEqual((rule, Market([], {}), [], Notice(rule, Market([], {}), []), [], 0, []), picture(session))
            self.assertEqual((0, ("gets", {})), (session.answer(question=("many",)), session.result()))
            self.assertEqual((None, None), (session.undo(), session.again()))
            self.assertEqual([], session.do(("carry",)))
            self.assertEqual(1, session.count())
        self.assertTrue(Session("shares").answer(("firm",)))

    def test_deeds_by_each_rule(self):
        for rule in RULES:
            session = Session(rule)
            self.assertEqual([], session.do(["come", "bo", ()]))
            session.do(("come", "ann", ("bo",)))
            session.do(("watch", ["many"]))
            session.do(("watch", ("served", "ann")))
            self.assertEqual([(("many",), 0, 2), (("served", "ann"), False, True)], session.do(("want", "bo", ["ann"])))
            self.assertEqual(["bo", "ann"] if rule == "pairs" else [], session.needs())
            self.assertEqual([(("many",), 2, False), (("served", "ann"), True, False)], [(one, answer, held) for one, answer, held in session.watched()])
            session.do(("come", "cy", ["ann"]))
            session.do(("hold", ("many",)))
            self.assertEqual([(("many",), True), (("served", "ann"), False)], [(one, held) for one, _, held in session.watched()])
            error = refused(self, WouldChange, session.do, ("leave", "bo"))
            self.assertEqual((("many",), (2, 0)), (error.question, error.why))
            session.do(("free", ("many",)))
            self.assertEqual([(("served", "ann"), True, False)], session.do(("leave", "bo")))
            self.assertEqual(Market(["ann", "cy"], {"cy": ["ann"]}), session.now())
            session.do(("want", "ann", ["cy"]))
            self.assertEqual(("served", "ann"), refused(self, InUse, session.do, ("carry",)).question)
            session.do(("free", ["served", "ann"]))
            session.do(("carry",))
            self.assertEqual((Market([], {}), []), (session.now(), session.needs()))

    def test_need(self):
        session = Session("pairs")
        for name in ("a", "b", "c"):
            session.do(("come", name, []))
        session.do(("need", "c", 0))
        self.assertEqual(["c", "a", "b"], session.needs())
        session.do(("need", "c", 2))
        session.do(("need", "a", 1))
        self.assertEqual(["b", "a", "c"], session.needs())
        self.assertEqual(["a", "b", "c"], session.now().people())
        self.assertEqual([3, -1, True, None, "0"], [refused(self, BadPlace, session.do, ("need", "a", at)).thing for at in (3, -1, True, None, "0")])

    def test_order_of_errors(self):
        session = Session("rings")
        session.do(("come", "a", []))
        session.do(("come", "b", ["a"]))
        session.do(("want", "a", ["b"]))
        session.do(("hold", ("many",)))
        session.do(("hold", ("served", "a")))
        cases = [(("come", "a", None), BadName), (("come", "x y", 0), BadName), (("come", "c", ["c"]), BadRow), (("want", "c", 0), BadName),
                 (("want", "a", ["a"]), BadRow), (("need", "c", 0), BadName), (("need", "a", 0), BadPlace), (("need", "a", None), BadPlace),
                 (("watch", ("gets", "c")), BadQuestion), (("watch", ("many",)), IsWatched), (("hold", ["many"]), IsWatched), (("free", ("firm",)), BadQuestion),
                 (("free", ("gets", "a")), NotWatched), (("leave", "a"), InUse), (("leave", "b"), WouldChange), (("want", "a", []), WouldChange),
                 (("leave",), BadDeed), (("leave", "a", "b"), BadDeed), (("carry", None), BadDeed), ((), BadDeed), ([["carry"]], BadDeed), ("carry", BadDeed)]
        for deed, kind in cases:
            refused(self, kind, session.do, deed)
        # Of two watched ones the first, as they came; in use comes ahead of what would change.
        self.assertEqual(("served", "a"), refused(self, InUse, session.do, ("leave", "a")).question)
        self.assertEqual(("many",), refused(self, WouldChange, session.do, ("want", "a", [])).question)
        self.assertEqual(0, refused(self, BadRow, session.do, ("come", "c", None)).index)
        self.assertEqual(1, refused(self, BadRow, session.do, ("come", "c", ["a", "a", 0])).index)

    def test_any_object(self):
        session = session_n()
        check_things(self, BadDeed, session.do, lambda thing: False)
        check_things(self, BadDeed, session.would, lambda thing: False)
        check_things(self, BadName, lambda thing: session.do(("come", thing, None)), lambda thing: thing in ("a", "b", "rings", "pairs") and isinstance(thing, str))
        check_things(self, BadName, lambda thing: session.would(("leave", thing)), lambda thing: thing == "ann")
        for word in ("watch", "hold", "free"):
            check_things(self, BadQuestion, lambda thing: session.do((word, thing)), lambda thing: False)
        check_things(self, BadQuestion, session.answer, lambda thing: False)
        self.assertFalse(any(session.is_question(thing=thing) for thing in any_objects()))
        self.assertFalse(any(session.is_question((word, thing)) for thing in any_objects() if thing != "ann" for word in ("gets", "served", "spare")))
        self.assertFalse(any(session.is_question(thing) for thing in [("firm",), ("many", "ann"), ("gets",), ("zed", "ann"), ("gets", "zed"), [["many"]]]))
        check_things(self, NoCount, session.at, lambda thing: isinstance(thing, int) and not isinstance(thing, bool) and 0 <= thing <= 13)
        check_things(self, BadRule, Session, lambda thing: thing in ("rings", "pairs"))
        self.assertEqual("Rings", refused(self, BadRule, Session, rule="Rings").thing)
        self.assertFalse(any(session == thing or thing == session for thing in any_objects()))

    def test_questions(self):
        for rule, gets, firm in (("rings", True, False), ("pairs", False, False), ("shares", False, True)):
            session = Session(rule)
            session.do(("come", "a", []))
            self.assertEqual([True, True, True, gets, firm], [session.is_question(thing) for thing in
                                                              (("many",), ["served", "a"], ("spare", "a"), ("gets", "a"), ("firm",))])

    def test_no_firm_pairing(self):
        """Behind all of [90] that is None where no pairing is firm, and [92]: carry lets nobody leave."""
        session = Session("shares")
        for name in ("a", "b", "c"):
            session.do(("come", name, []))
        for name, row in (("a", ["b", "c"]), ("b", ["c", "a"])):
            session.do(("want", name, row))
        for question in (("many",), ("served", "a"), ("spare", "b"), ("firm",)):
            session.do(("watch", question))
        self.assertEqual([2, True, False, True], [answer for _, answer, _ in session.watched()])
        told = session.do(("want", "c", ["a", "b"]))
        self.assertEqual([(("many",), 2, None), (("served", "a"), True, None), (("spare", "b"), False, None), (("firm",), True, False)], told)
        self.assertEqual(("gets", {}), session.result())
        self.assertEqual([], session.do(("carry",)))
        self.assertEqual(3, len(session.now().people()))
        # If b left, a and c would share: still None, as nobody is served ahead.
        self.assertIsNone(session.answer(("spare", "b")))

    def test_it_holds(self):
        """IT HOLDS of [92]."""
        chance = random.Random(242)
        for number in range(240):
            plain = Plain(RULES[number % 3])
            for name in chance.sample("abcd", chance.randint(0, 4)):
                plain = plain.behind(("come", name, []))
            for name in plain.people:
                others = [other for other in plain.people if other != name]
                plain = plain.behind(("want", name, chance.sample(others, chance.randint(0, len(others)))))
            session = session_by(plain)
            self.check_asked(session, plain)
            for name in plain.people:
                if session.answer(("served", name)) is False and plain.rule != "shares":
                    self.check_left(session, plain, name)
            session.do(("carry",))
            self.assertEqual(0 if plain.served() is not None else None, session.answer(("many",)))

    def check_left(self, session, plain, name):
        other = session.copy()
        for one in plain.people:
            if one != name:
                other.do(("watch", ("gets" if plain.rule == "rings" else "served", one)))
        self.assertEqual([], other.do(("leave", name)))
        self.assertEqual([], other.do(("come", "new", [])))

    def test_undo_and_again(self):
        chance = random.Random(243)
        for number in range(60):
            plains = [Plain(RULES[number % 3])]
            session = Session(plains[0].rule)
            at = 0
            for _ in range(60):
                word = chance.choice(["do"] * 5 + ["undo"] * 2 + ["again"] * 2)
                if word == "do":
                    deed = random_deed(chance, plains[at], 0.1)
                    if len(plains[at].people) < 4 or deed[0] != "come":
                        before = session.deeds()
                        now = self.check_do(session, plains[at], deed)
                        if len(session.deeds()) > len(before):
                            plains = plains[:at + 1] + [now]
                            at += 1
                            self.assertIsNone(session.again())
                elif word == "undo":
                    deed = session.deeds()[-1] if at else None
                    self.assertEqual(deed, session.undo())
                    at = max(0, at - 1)
                else:
                    told = session.again()
                    self.assertEqual(at == len(plains) - 1, told is None)
                    at += told is not None
                    if told is not None:
                        self.assertEqual(told, session.deeds()[-1])
                self.assertEqual(at, session.count())
                self.check_state(session, plains[at])
            self.check_past(session, plains, at)

    def check_past(self, session, plains, at):
        """copy and at: the same, going on by themselves."""
        for number in range(at + 1):
            other = session.at(number=number)
            self.check_state(other, plains[number])
            self.assertEqual((session.deeds()[:number], None), (other.deeds(), other.again()))
            self.assertEqual(number > 0, other.undo() is not None)
        before = picture(session)
        other = session.copy()
        self.assertEqual(session, other)
        self.assertEqual(before, picture(other))
        while other.again() is not None:
            pass
        self.check_state(other, plains[-1])
        other.do(("come", "new", []))
        self.assertEqual(before, picture(session))
        self.assertNotEqual(session, other)
        self.assertEqual(len(plains) - 1 - at, len([1 for _ in iter(session.again, None)]))

    def test_refused_deeds_end_nothing(self):
        session = session_n()
        session.do(("want", "ann", []))
        self.assertEqual(("want", "ann", ()), session.undo())
        refused(self, WouldChange, session.do, ("want", "eve", []))
        session.would(("want", "fay", []))
        self.assertEqual(("want", "ann", ()), session.again())

    def test_whatever_is_held(self):
        """undo and again go to states that were."""
        session = Session("rings")
        session.do(("come", "a", []))
        session.do(("hold", ("many",)))
        session.do(("free", ("many",)))
        session.do(("come", "b", ["a"]))
        session.do(("want", "a", ["b"]))
        session.do(("hold", ("many",)))
        for _ in range(6):
            session.undo()
        self.assertEqual((0, []), (session.count(), session.watched()))
        for _ in range(6):
            session.again()
        self.assertEqual([(("many",), 2, True)], session.watched())
        self.assertEqual(6, session.count())

    def test_trial(self):
        session = session_n()
        session.do(("want", "fay", []))
        session.undo()
        before = picture(session)

        def work(one):
            self.assertIs(session, one)
            one.do(("free", ("gets", "dan")))
            one.do(("carry",))
            self.assertEqual(1, len(one.now().people()))
            one.trial(work=lambda two: [two.undo() for _ in range(20)])
            return ("told", one.count())

        self.assertEqual(("told", session.count() + 2), session.trial(work=work))
        self.assertEqual(before, picture(session))
        self.assertEqual(("want", "fay", ()), session.again())
        session.undo()
        error = refused(self, InUse, session.trial, lambda one: (one.do(("want", "ann", ["bo"])), one.do(("carry",))))
        self.assertEqual(("gets", "dan"), error.question)
        self.assertRaises(ZeroDivisionError, session.trial, lambda one: one.undo() and 1 // 0)
        self.assertEqual(before, picture(session))
        self.assertEqual(("want", "fay", ()), session.again())

    def test_trials_within_one_another(self):
        session = Session("pairs")

        def work(depth):
            def inner(one):
                one.do(("come", "abcdefg"[depth], []))
                told = one.trial(work(depth + 1)) if depth < 5 else []
                self.assertEqual(depth + 1, one.count())
                return told + [one.now().people()]
            return inner

        self.assertEqual([list("abcdef"[:many]) for many in (6, 5, 4, 3, 2, 1)], session.trial(work(0)))
        self.assertEqual((0, None), (session.count(), session.again()))

    def test_equal(self):
        one, other = session_n(), session_n()
        self.assertEqual(one, other)
        other.do(("want", "ann", ["bo"]))
        self.assertNotEqual(one, other)
        other.do(("want", "ann", ["cy", "bo"]))
        self.assertEqual(one, other)
        one.do(("watch", ("many",)))
        self.assertNotEqual(one, other)
        other.do(("hold", ("many",)))
        self.assertNotEqual(one, other)
        self.assertEqual([Session(rule) == Session("rings") for rule in RULES], [True, False, False])
        one, other = Session("rings"), Session("rings")
        for session, questions in ((one, [("many",), ("served", "a")]), (other, [("served", "a"), ("many",)])):
            session.do(("come", "a", []))
            for question in questions:
                session.do(("watch", question))
        self.assertNotEqual(one, other)
        one, other = Session("pairs"), Session("pairs")
        for session in (one, other):
            session.do(("come", "a", []))
            session.do(("come", "b", []))
        other.do(("need", "b", 0))
        self.assertNotEqual(one, other)

    def test_told_anew(self):
        session = session_n()
        row = ["bo"]
        deed = ["want", "ann", row]
        question = ["many"]
        session.do(deed)
        session.do(("watch", question))
        row.append("cy")
        question.append("ann")
        deed[1] = "bo"
        self.assertEqual(["bo"], session.now().wants("ann"))
        self.assertEqual((("many",), ("want", "ann", ("bo",))), (session.watched()[1][0], session.deeds()[-2]))
        before = picture(session)
        for told in (session.watched, session.deeds, session.needs, session.result, lambda: session.would(("leave", "cy"))):
            found = mutable_in(told())
            self.assertTrue(found or told == session.needs)
            self.assertFalse({id(one) for one in found} & {id(one) for one in mutable_in(told())})
            for one in found:
                one.clear()
        session.now().wishes().clear()
        session.notice().needs().append("x")
        self.assertEqual(before, picture(session))
        pairs = Session("pairs")
        pairs.do(("come", "a", []))
        pairs.needs().clear()
        self.assertEqual(["a"], pairs.needs())
        self.assertIsInstance(session.would(("leave", "fay")), list)

    def test_promptly(self):
        began = time.time()
        chance = random.Random(244)
        for rule in RULES:
            session = Session(rule)
            names = list("abcdefghi")
            for name in names:
                session.do(("come", name, chance.sample(session.now().people(), session.count())))
            for question in [("many",), ("served", "a"), ("spare", "a"), ("spare", "b"), ("served", "b"), ("spare", "c")]:
                session.do(("watch", question))
            for _ in range(35):
                name = chance.choice(names)
                session.do(("want", name, chance.sample([one for one in names if one != name], 8)))
            self.assertEqual(50, session.count())
            told = picture(session)
            for _ in range(30):
                for _ in range(50):
                    session.undo()
                for _ in range(50):
                    session.again()
            self.assertEqual(told, picture(session))
        self.assertLess(time.time() - began, 20)


if __name__ == "__main__":
    unittest.main()
