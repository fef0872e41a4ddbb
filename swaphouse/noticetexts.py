"""Notices as texts, and the first wrong sign of what is none."""

from swaphouse.markets import Market
from swaphouse.names import AnyName, NameOf
from swaphouse.notices import RULES, Notice, check_notice
from swaphouse.textreading import check_text, names_told, row_line_on, text_fault, whole_row


class NoticeReader:
    """A reader, as textreading.py tells, of the lines of a notice."""

    def __init__(self):
        self._rule = None
        self._people = []
        self._places = {}
        self._stock = NameOf(self._places)
        self._wishes = {}
        self._last = -1
        self._needs = []

    def take(self, line):
        if self._rule is None:
            return self._take_rule(line)
        if self._needs:
            return False
        head, _, rest = line.partition(" ")
        if head == "person":
            return self._take_person(rest)
        if head == "needs":
            return self._take_needs(rest)
        return self._take_wants(line)

    def _take_rule(self, line):
        for rule in RULES:
            if line == "rule " + rule:
                self._rule = rule
                return True
        return False

    def _take_person(self, name):
        if self._wishes or name in self._places or not AnyName().has(name):
            return False
        self._places[name] = len(self._people)
        self._people.append(name)
        return True

    def _take_needs(self, told):
        if self._rule != "pairs" or not self._people:
            return False
        row = whole_row(told, self._stock, {})
        if row is None or len(row) < len(self._people):
            return False
        self._needs = row
        return True

    def _take_wants(self, line):
        person, wants, told = line.partition(" wants ")
        if wants == "" or self._places.get(person, -1) <= self._last:
            return False
        row = whole_row(told, self._stock, {person: True})
        if row is None:
            return False
        self._wishes[person] = row
        self._last = self._places[person]
        return True

    def line_on(self, part):
        """A line that begins with part and may stand next, one that brings the text to its end first."""
        if self._rule is None:
            return self._rule_on(part)
        if self._needs:
            return None
        line = self._needs_on(part)
        if line is None:
            line = self._wants_on(part)
        if line is None and not self._wishes:
            line = self._person_on(part)
        return line

    def _rule_on(self, part):
        for rule in RULES:
            if ("rule " + rule).startswith(part):
                return "rule " + rule
        return None

    def _person_on(self, part):
        head = "person "
        name = None
        if head.startswith(part):
            name = AnyName().first("", self._places)
        elif part.startswith(head):
            name = AnyName().first(part[len(head):], self._places)
        return None if name is None else head + name

    def _wants_on(self, part):
        for person in self._people[self._last + 1:]:
            line = row_line_on(person + " wants ", part, self._stock, {person: True})
            if line is not None:
                return line
        return None

    def _needs_on(self, part):
        head = "needs "
        if self._rule != "pairs" or not self._people:
            return None
        line = row_line_on(head, part, self._stock, {})
        if line is None:
            return None
        row = line[len(head):].split(", ")
        return head + names_told(row + [name for name in self._people if name not in row])

    def whole(self):
        if self._rule is None:
            return False
        return self._rule != "pairs" or not self._people or len(self._needs) > 0

    def rule(self):
        return self._rule

    def people(self):
        return list(self._people)

    def notice(self):
        return Notice(self._rule, Market(self._people, self._wishes), self._needs)


def notice_text(notice):
    check_notice(notice)
    market = notice.market()
    wishes = market.wishes()
    lines = ["rule " + notice.rule()]
    lines = lines + ["person " + person for person in market.people()]
    lines = lines + [person + " wants " + names_told(wishes[person]) for person in market.people() if wishes[person]]
    if notice.needs():
        lines.append("needs " + names_told(notice.needs()))
    return "".join([line + "\n" for line in lines])


def notice_fault(text):
    return text_fault(text, NoticeReader())


def read_notice(text):
    reader = NoticeReader()
    check_text(text, reader)
    return reader.notice()


def notice_goes_on(text):
    if not isinstance(text, str):
        return None
    reader = NoticeReader()
    lines = text.split("\n")
    part = lines.pop()
    for line in lines:
        if not reader.take(line):
            return None
    while part != "" or not reader.whole():
        line = reader.line_on(part)
        if line is None or not reader.take(line):
            return None
        lines.append(line)
        part = ""
    return "".join([line + "\n" for line in lines])
