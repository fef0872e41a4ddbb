"""What the tests of sessions use: a plain session told by the words of [87] to [93], and deeds of all kinds."""

from audittrials import right_by_trial, taken_by_trial
from examples import any_objects
from sharetrials import firm_by_trial

from swaphouse.markets import Market
from swaphouse.notices import Notice
from swaphouse.sessions import Session

RESERVED = ["rule", "person", "wants", "needs", "gets", "with", "ring", "out", "without", "lot", "watch", "hold"]


class Plain:
    """A notice and what is watched of it, as dicts and lists; one is made anew by each deed."""

    def __init__(self, rule, people=(), rows=(), needs=(), watched=()):
        self.rule = rule
        self.people = list(people)
        self.rows = dict(rows)
        self.needs = list(needs)
        self.watched = list(watched)

    def notice(self):
        return Notice(self.rule, Market(self.people, self.rows), self.needs)

    def served(self):
        """Who is served, by trial; None where no pairing is firm."""
        market = self.notice().market()
        if self.rule == "pairs":
            return taken_by_trial(market, self.needs)
        if self.rule == "shares" and not firm_by_trial(market):
            return None
        verb, told = right_by_trial(self.notice())[0]
        return set(told) if verb == "gets" else {name for pair in told for name in pair}

    def without(self, names):
        rows = {name: [other for other in row if other not in names] for name, row in self.rows.items() if name not in names}
        return Plain(self.rule, [name for name in self.people if name not in names], rows,
                     [name for name in self.needs if name not in names], self.watched)

    def questions(self):
        told = [("many",)] + [("firm",)] * (self.rule == "shares")
        for name in self.people:
            told += [("served", name), ("spare", name)] + [("gets", name)] * (self.rule == "rings")
        return told

    def answer(self, question):
        if question == ("firm",):
            return bool(firm_by_trial(self.notice().market()))
        if question[0] == "gets":
            return right_by_trial(self.notice())[0][1].get(question[1], question[1])
        served = self.served()
        if question[0] == "spare":
            behind = self.without([question[1]]).served()
            return None if served is None or behind is None else served - {question[1]} <= behind
        if served is None:
            return None
        return len(served) if question[0] == "many" else question[1] in served

    def answers(self):
        return [(question, self.answer(question), held) for question, held in self.watched]

    def behind(self, deed):
        """What stands behind a deed that may be done."""
        word, *parts = deed
        told = Plain(self.rule, self.people, self.rows, self.needs, self.watched)
        if word == "leave":
            return self.without(parts)
        if word == "carry":
            return self.without(self.served() or [])
        if word == "come":
            told.people.append(parts[0])
            told.needs += [parts[0]] * (self.rule == "pairs")
        if word in ("come", "want"):
            told.rows[parts[0]] = list(parts[1])
        if word == "need":
            told.needs.remove(parts[0])
            told.needs.insert(parts[1], parts[0])
        if word in ("watch", "hold", "free"):
            question = tuple(parts[0])
            held = dict(self.watched)
            if word == "free":
                del held[question]
            else:
                held[question] = word == "hold"
            told.watched = list(held.items())
        return told

    def row_fault(self, name, row):
        if not isinstance(row, (list, tuple)):
            return 0
        for at, one in enumerate(row):
            if not isinstance(one, str) or one not in self.people or one == name or one in row[:at]:
                return at
        return None

    def is_question(self, thing):
        return isinstance(thing, (list, tuple)) and tuple(thing) in self.questions()

    def error(self, deed):
        """The name of the error by which a deed is refused, and what it tells, all but InUse and WouldChange; or None."""
        lengths = {"come": 3, "leave": 2, "want": 3, "need": 3, "carry": 1, "watch": 2, "hold": 2, "free": 2}
        if not isinstance(deed, (list, tuple)) or not deed or not isinstance(deed[0], str) or lengths.get(deed[0]) != len(deed):
            return ("BadDeed", deed)
        word = deed[0]
        if word in ("come", "leave", "want", "need"):
            is_there = isinstance(deed[1], str) and deed[1] in self.people
            is_name = isinstance(deed[1], str) and deed[1].isalnum() and deed[1].islower() and deed[1][0].isalpha() \
                and len(deed[1]) <= 8 and deed[1] not in RESERVED
            if (not is_name or is_there) if word == "come" else not is_there:
                return ("BadName", deed[1])
            if word in ("come", "want") and self.row_fault(deed[1], deed[2]) is not None:
                return ("BadRow", self.row_fault(deed[1], deed[2]))
            places = range(len(self.needs))
            if word == "need" and (not isinstance(deed[2], int) or isinstance(deed[2], bool) or deed[2] not in places):
                return ("BadPlace", deed[2])
        elif word != "carry":
            if not self.is_question(deed[1]):
                return ("BadQuestion", deed[1])
            held = dict(self.watched)
            question = tuple(deed[1])
            if word == "free":
                return None if question in held else ("NotWatched", question)
            if question in held and (word == "watch" or held[question]):
                return ("IsWatched", question)
        return None

    def changes(self, behind):
        return [(question, answer, behind.answer(question)) for question, answer, _ in self.answers() if answer != behind.answer(question)]

    def outcome(self, deed):
        """What do tells: a pair of its word and what it returns or of its error and what that tells."""
        error = self.error(deed)
        if error is not None:
            return error
        behind = self.behind(deed)
        for question, _ in self.watched:
            if not behind.is_question(question):
                return ("InUse", question)
        held = dict(self.watched)
        for question, _, _ in self.changes(behind):
            if held[question]:
                return ("WouldChange", question)
        return ("done", self.changes(behind))


def random_deed(chance, plain, spoiled):
    """A deed, a wrong one by this chance."""
    names = plain.people + ["a", "b", "c", "d"]
    word = chance.choice(["come"] * 3 + ["leave", "want", "want", "want", "want", "need", "carry", "watch", "hold", "hold", "free"])
    name = chance.choice([one for one in "dabce" if one not in plain.people] or ["a"]) if word == "come" else chance.choice(names)
    others = [one for one in plain.people if one != name]
    row = chance.sample(others, chance.randint(0, len(others)))
    question = chance.choice(plain.questions()) if word != "free" or not plain.watched else chance.choice(plain.watched)[0]
    deed = {"come": [name, row], "leave": [name], "want": [name, row], "need": [name, chance.randint(0, 4)], "carry": []}.get(word, [question])
    deed = [word] + deed
    if chance.random() < spoiled:
        deed[chance.randrange(len(deed))] = chance.choice(any_objects() + [["a", "b"], ["b", "a"], ("served", "a"), ("gets", "b"), 3])
    return chance.choice([tuple, list])(deed)


def session_by(plain):
    """A session in which all of this was done by deeds."""
    session = Session(plain.rule)
    for name in plain.people:
        session.do(("come", name, []))
    for name in plain.people:
        session.do(("want", name, plain.rows.get(name, [])))
    for at, name in enumerate(plain.needs):
        session.do(("need", name, at))
    for question, held in plain.watched:
        session.do(("hold" if held else "watch", question))
    return session
