"""Results as texts: who gets whose thing, or who is with whom."""

from swaphouse.errors import BadResult
from swaphouse.given import is_list, is_row_of
from swaphouse.names import AnyName, is_name
from swaphouse.textreading import check_text, text_fault

VERBS = ("gets", "with")


def is_gets(thing):
    """Whether any object is a dict from names to unlike names, none its own."""
    if not isinstance(thing, dict):
        return False
    seen = set()
    for one, other in thing.items():
        if not is_name(one) or not is_name(other) or one == other or other in seen:
            return False
        seen.add(other)
    return True


def is_with(thing):
    """Whether any object is a list of pairs of unlike names, ascending, the lesser first; not []."""
    if not is_list(thing) or len(thing) == 0:
        return False
    seen = set()
    ahead = ""
    for pair in thing:
        if not is_row_of(pair, 2) or not is_name(pair[0]) or not is_name(pair[1]):
            return False
        if not ahead < pair[0] < pair[1] or pair[0] in seen or pair[1] in seen:
            return False
        seen.add(pair[0])
        seen.add(pair[1])
        ahead = pair[0]
    return True


def is_result(thing):
    """Whether any object is a result."""
    if not is_row_of(thing, 2):
        return False
    if thing[0] == "gets":
        return is_gets(thing[1])
    return thing[0] == "with" and is_with(thing[1])


class ResultReader:
    """A reader, as textreading.py tells, of the lines of a result."""

    def __init__(self):
        self._verb = None
        self._pairs = []
        self._firsts = {}
        self._seconds = {}

    def take(self, line):
        words = line.split(" ")
        if len(words) != 3 or words[1] not in self._verbs():
            return False
        one, verb, other = words
        if not self._may_be_first(one) or one == other or other in self._seconds or not is_name(other):
            return False
        self._verb = verb
        self._pairs.append((one, other))
        self._firsts[one] = True
        self._seconds[other] = True
        if verb == "with":
            self._firsts[other] = True
            self._seconds[one] = True
        return True

    def _verbs(self):
        return VERBS if self._verb is None else (self._verb,)

    def _may_be_first(self, name):
        return is_name(name) and name not in self._firsts

    def line_on(self, part):
        one, blank, rest = part.partition(" ")
        if blank == "":
            one = AnyName().first(one, self._firsts)
            return None if one is None else self._line_behind(one, "")
        return self._line_behind(one, rest) if self._may_be_first(one) else None

    def _line_behind(self, one, rest):
        """A line that begins with a first name, a blank and rest; None if there is none."""
        for verb in self._verbs():
            head = verb + " "
            other = None
            if head.startswith(rest):
                other = AnyName().first("", {**self._seconds, one: True})
            elif rest.startswith(head):
                other = AnyName().first(rest[len(head):], {**self._seconds, one: True})
            if other is not None:
                return one + " " + head + other
        return None

    def whole(self):
        return True

    def result(self):
        if self._verb == "with":
            return ("with", sorted([(min(pair), max(pair)) for pair in self._pairs]))
        return ("gets", {one: other for one, other in sorted(self._pairs)})


def result_text(result):
    if not is_result(result):
        raise BadResult(result)
    verb, told = result
    pairs = sorted(list(told.items())) if verb == "gets" else told
    return "".join([one + " " + verb + " " + other + "\n" for one, other in pairs])


def result_fault(text):
    return text_fault(text, ResultReader())


def read_result(text):
    reader = ResultReader()
    check_text(text, reader)
    return reader.result()
