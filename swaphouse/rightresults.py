"""What is right for a notice, and results told as dicts.

Mates are a dict from people to whom each has, None for who is alone; gets a dict from people to whose thing each has.
"""

from swaphouse.needy import needy_pairing
from swaphouse.parties import firm_pairing
from swaphouse.rings import firm_allotment


def result_of_gets(gets):
    """The result that tells an allotment."""
    return ("gets", {person: thing for person, thing in gets.items() if thing != person})


def result_of_mates(mates):
    """The result that tells a pairing, told ascending."""
    pairs = [(one, other) for one, other in mates.items() if other is not None and one < other]
    return ("with", pairs) if pairs else ("gets", {})


def right_result(notice):
    """The result by a firm allotment, or by a pairing that is right; nobody where no pairing is firm."""
    market = notice.market()
    if notice.rule() == "rings":
        return result_of_gets(firm_allotment(market))
    if notice.rule() == "pairs":
        return result_of_mates(needy_pairing(market, notice.needs()))
    mates = firm_pairing(market)
    return ("gets", {}) if mates is None else result_of_mates(mates)


def gets_told(people, result):
    """What all people get by a result of "gets", their own if it does not tell."""
    return {person: result[1].get(person, person) for person in people}


def mates_told(people, result):
    """Whom all people have by a result of "with", nobody if it does not tell."""
    mates = {person: None for person in people}
    if result[0] == "with":
        for one, other in result[1]:
            mates[one] = other
            mates[other] = one
    return mates
