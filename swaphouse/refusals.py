"""Why a result is not right for a notice."""

from swaphouse.errors import BadResult
from swaphouse.given import are_unlike, is_one_of, is_row_of
from swaphouse.likes import is_better
from swaphouse.notices import check_notice
from swaphouse.pairings import near_of, pairing_fault
from swaphouse.pointing import all_rings, rounds_by
from swaphouse.resulttexts import is_result
from swaphouse.rightresults import gets_told, mates_told
from swaphouse.sharing import own_if_alone, pairs_leaving, sharing_rows, would_leave
from swaphouse.tables import goes_on, odd_rings_of, settled
from swaphouse.taking import Taking


def is_result_of(rule, people, thing):
    """Whether any object is a result of the rule's kind, of people, by which those who get are those who give."""
    if not is_result(thing):
        return False
    verb, told = thing
    if len(told) == 0:
        return True
    if (verb == "gets") != (rule == "rings"):
        return False
    if verb == "gets":
        return sorted(told) == sorted(list(told.values())) and all([name in people for name in told])
    return all([name in people for pair in told for name in pair])


def check_result(notice, result):
    check_notice(notice)
    if not is_result_of(notice.rule(), notice.market().wishes(), result):
        raise BadResult(result)


class RingsCase:
    """A result by rings, and what refuses it."""

    def __init__(self, notice, result):
        self._rows = notice.market().wishes()
        self._gets = gets_told(self._rows, result)

    def refusal(self):
        # The first ring that is not so betters it: all rings ahead have left with their things.
        for ring in all_rings(rounds_by(self._rows)):
            if any([self._gets[one] != other for one, other in zip(ring, ring[1:] + ring[:1])]):
                return ("ring", ring)
        return None

    def is_refusal(self, thing):
        if not is_row_of(thing, 2) or thing[0] != "ring" or not are_unlike(thing[1], self._rows):
            return False
        ring = list(thing[1])
        if len(ring) == 0 or ring[0] != min(ring):
            return False
        pairs = list(zip(ring, ring[1:] + ring[:1]))
        if any([is_better(self._rows[one], one, self._gets[one], other) for one, other in pairs]):
            return False
        return any([is_better(self._rows[one], one, other, self._gets[one]) for one, other in pairs])


def first_untied(near, mates):
    """The first pair of people who have one another and are not tied, None if all are."""
    for one, other in mates.items():
        if other is not None and other not in near[one]:
            return (one, other)
    return None


def is_tie_refusal(near, mates, thing):
    """Whether any object tells of a pair of people who have one another and are not tied."""
    if not is_row_of(thing, 3) or thing[0] != "tie" or not is_one_of(thing[1], near) or not is_one_of(thing[2], near):
        return False
    return thing[1] < thing[2] and mates[thing[1]] == thing[2] and thing[2] not in near[thing[1]]


class PairsCase:
    """A result by pairs, and what refuses it."""

    def __init__(self, notice, result):
        self._near = near_of(notice.market().wishes())
        self._needs = notice.needs()
        self._mates = mates_told(self._near, result)

    def refusal(self):
        untied = first_untied(self._near, self._mates)
        if untied is not None:
            return ("tie", untied[0], untied[1])
        pairing = Taking(self._near, self._needs).mates()
        return ("serve", pairing) if self._first_unlike(pairing) is not None else None

    def _first_unlike(self, pairing):
        """The first, by needs, whom just one of a pairing and the result serves."""
        for person in self._needs:
            if (pairing[person] is None) != (self._mates[person] is None):
                return person
        return None

    def is_refusal(self, thing):
        if is_tie_refusal(self._near, self._mates, thing):
            return True
        if not is_row_of(thing, 2) or thing[0] != "serve" or pairing_fault(self._near, thing[1]) is not None:
            return False
        person = self._first_unlike(thing[1])
        return person is not None and thing[1][person] is not None


class SharesCase:
    """A result by shares, and what refuses it."""

    def __init__(self, notice, result):
        self._rows = sharing_rows(notice.market())
        self._mates = mates_told(self._rows, result)
        # Whoever has one with whom it may not share likes that less than being alone, so it counts as alone.
        self._has = own_if_alone(self._mates)

    def _is_right(self):
        if first_untied(self._rows, self._mates) is not None:
            return False
        if not pairs_leaving(self._rows, self._has):
            return True
        # Nobody at all is right just where no pairing is firm.
        nobody = all([mate is None for mate in list(self._mates.values())])
        return nobody and len(odd_rings_of(goes_on(settled(self._rows)))) > 0

    def refusal(self):
        if self._is_right():
            return None
        untied = first_untied(self._rows, self._mates)
        if untied is not None:
            return ("tie", untied[0], untied[1])
        one, other = pairs_leaving(self._rows, self._has)[0]
        return ("leave", one, other)

    def is_refusal(self, thing):
        if self._is_right():
            return False
        if is_tie_refusal(self._rows, self._mates, thing):
            return True
        if not is_row_of(thing, 3) or thing[0] != "leave":
            return False
        if not all([is_one_of(name, self._rows) for name in thing[1:]]):
            return False
        return thing[1] < thing[2] and would_leave(self._rows, self._has, thing[1], thing[2])


def refusal(notice, result):
    check_result(notice, result)
    if notice.rule() == "rings":
        return RingsCase(notice, result).refusal()
    if notice.rule() == "pairs":
        return PairsCase(notice, result).refusal()
    return SharesCase(notice, result).refusal()


def is_refusal(notice, result, thing):
    check_result(notice, result)
    if notice.rule() == "rings":
        return RingsCase(notice, result).is_refusal(thing)
    if notice.rule() == "pairs":
        return PairsCase(notice, result).is_refusal(thing)
    return SharesCase(notice, result).is_refusal(thing)
