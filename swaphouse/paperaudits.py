"""What is wrong with a paper's text that has the form of one, by a notice and a result.

Lines here are triples (word, names, signs): what a line begins with, its names, and at which sign each of them begins.
A judge goes through the lines: judge.name_fault(at) tells what is wrong with a name of the line that it has, behind
that it is one of the people; judge.line_fault() what is wrong with the whole line; both None if nothing is.
"""

from swaphouse.likes import better_things, is_better
from swaphouse.pairings import near_of
from swaphouse.rightresults import gets_told, mates_told
from swaphouse.sharing import sharing_rows


def line_parts(line):
    """The triple of a line of a paper, told by its text."""
    word, _, rest = line.partition(" ")
    start = len(word) + 2
    if word != "out":
        names = rest.split(", ")
        return (word, names, signs_from(start, names))
    person, without, few = rest.partition(" without ")
    names = few.split(", ") if without != "" else []
    return (word, [person] + names, [start] + signs_from(start + len(person) + len(without), names))


def signs_from(start, names):
    """At which sign each name begins, with a comma and a blank between two, the first one at start."""
    signs = []
    at = start
    for name in names:
        signs.append(at)
        at = at + len(name) + 2
    return signs


class RingsJudge:
    """Judges rings as a paper for what people get: nobody likes a thing better that leaves no earlier."""

    def __init__(self, notice, result):
        self._rows = notice.market().wishes()
        self._gets = gets_told(self._rows, result)
        self._names = []
        self._above = {}

    def begin(self, word, names):
        for name in self._names:
            self._above[name] = True
        self._names = names

    def name_fault(self, at):
        name = self._names[at]
        thing = self._gets[name]
        if self._names[(at + 1) % len(self._names)] != thing:
            return "other"
        early = [one for one in better_things(self._rows[name], name, thing) if one not in self._above]
        return "early" if early else None

    def line_fault(self):
        return None

    def last_fault(self):
        """What is wrong behind all lines."""
        return "lacks" if len(self._above) + len(self._names) < len(self._rows) else None


class SharesJudge:
    """Judges rings as a paper for who shares: nobody likes another better, back and forth, than the one ahead."""

    def __init__(self, notice, result):
        self._rows = sharing_rows(notice.market())
        self._mates = mates_told(self._rows, result)
        self._names = []
        self._ahead = {}
        self._longest = 0
        self._fault = None

    def begin(self, word, names):
        self._names = names
        self._longest = max(self._longest, len(names))

    def name_fault(self, at):
        name = self._names[at]
        row = self._rows[name]
        behind = self._names[(at + 1) % len(self._names)]
        ahead = self._names[at - 1]
        if len(self._names) > 1 and behind not in row:
            return "tie"
        if len(self._names) > 2 and not is_better(row, name, behind, ahead):
            return "turned"
        for other in row:
            if other in self._ahead and is_better(row, name, other, ahead):
                if is_better(self._rows[other], other, name, self._ahead[other]):
                    return "leave"
        self._ahead[name] = ahead
        return None

    def line_fault(self):
        return "even" if len(self._names) > 2 and len(self._names) % 2 == 0 else None

    def is_other(self, name, names):
        """Whether somebody of a line of one or two has not just its other one by the result."""
        others = [one for one in names if one != name]
        return self._mates[name] != (others[0] if others else None)

    def is_all_pairs(self):
        return self._longest < 3

    def last_fault(self):
        if len(self._ahead) < len(self._rows):
            return "lacks"
        shares = [mate for mate in list(self._mates.values()) if mate is not None]
        return "odd" if self._longest > 2 and shares else None


class PairsJudge:
    """Judges blocks as papers for all who are left: each has more odd lots of served people than few."""

    def __init__(self, notice, result):
        self._near = near_of(notice.market().wishes())
        self._mates = mates_told(self._near, result)
        self._places = {name: at for at, name in enumerate(notice.needs())}
        self._out = {}
        self._word = ""
        self._names = []
        self._few = []
        self._person = None
        self._lots = 0

    def begin(self, word, names):
        self._word = word
        self._names = names
        if word == "out":
            self._person = names[0]
            self._few = names[1:]
            self._lots = 0
            self._out[names[0]] = True
        else:
            self._lots += 1

    def name_fault(self, at):
        name = self._names[at]
        if self._word == "out":
            return "served" if at == 0 and self._mates[name] is not None else None
        if name != self._person and not self._is_needier(name):
            return "lot"
        apart = [one for one in self._near[name] if one not in self._names and one not in self._few]
        return "tie" if apart else None

    def _is_needier(self, name):
        return self._mates[name] is not None and self._places[name] < self._places[self._person]

    def line_fault(self):
        return "even" if self._word == "lot" and len(self._names) % 2 == 0 else None

    def block_fault(self):
        """What is wrong with the block that is at its end."""
        return "few" if self._lots <= len(self._few) else None

    def last_fault(self):
        left = [name for name, mate in self._mates.items() if mate is None and name not in self._out]
        return "lacks" if left else None


def line_fault_by(judge, people, names, signs):
    """The pair (sign, why) of the first thing that is wrong with the line that a judge has, None if nothing is."""
    for at, name in enumerate(names):
        fault = judge.name_fault(at) if name in people else "who"
        if fault is not None:
            return (signs[at], fault)
    fault = judge.line_fault()
    return None if fault is None else (1, fault)


def lines_fault(judge, people, lines):
    """The triple (line, sign, why) of the first thing that is wrong with all lines, line by line."""
    for at, (word, names, signs) in enumerate(lines):
        judge.begin(word, names)
        fault = line_fault_by(judge, people, names, signs)
        if fault is not None:
            sign, why = fault
            return (at + 1, sign, why)
    return None


def blocks_fault(judge, people, lines):
    """As lines_fault, block by block: what is wrong with a whole block is told behind it, of its first line."""
    starts = [at for at, line in enumerate(lines) if line[0] == "out"]
    for start, end in zip(starts, starts[1:] + [len(lines)]):
        fault = lines_fault(judge, people, lines[start:end])
        if fault is not None:
            line, sign, why = fault
            return (start + line, sign, why)
        if judge.block_fault() is not None:
            return (start + 1, 1, judge.block_fault())
    return None


def others_fault(judge, lines):
    """What tells of the first one whom a line of one or two does not give whom the result gives it."""
    for at, (_, names, signs) in enumerate(lines):
        for name, sign in zip(names, signs):
            if judge.is_other(name, names):
                return (at + 1, sign, "other")
    return None


def audit_paper(notice, result, text):
    """None, or the triple (line, sign, why) of the first thing that is wrong with a paper's text."""
    people = notice.market().wishes()
    rule = notice.rule()
    lines = [line_parts(line) for line in text.split("\n")[:-1]]
    # All lines of a paper are rings, or all are blocks.
    if lines and (lines[0][0] == "ring") != (rule != "pairs"):
        return (1, 1, "kind")
    if rule == "rings":
        judge = RingsJudge(notice, result)
        fault = lines_fault(judge, people, lines)
    elif rule == "pairs":
        judge = PairsJudge(notice, result)
        fault = blocks_fault(judge, people, lines)
    else:
        judge = SharesJudge(notice, result)
        fault = lines_fault(judge, people, lines)
        if fault is None and judge.is_all_pairs():
            fault = others_fault(judge, lines)
    if fault is None and judge.last_fault() is not None:
        fault = (len(lines) + 1, 1, judge.last_fault())
    return fault
