"""Questions about what comes of a notice, and their answers."""

from swaphouse.given import is_one_of, is_row_of
from swaphouse.markets import Market
from swaphouse.needy import served
from swaphouse.notices import Notice
from swaphouse.parties import firm_pairing
from swaphouse.rings import firm_allotment


def is_question_by(rule, people, thing):
    """Whether any object is a question about a notice of this rule and these people."""
    if is_row_of(thing, 1):
        return thing[0] == "many" or (thing[0] == "firm" and rule == "shares")
    if not is_row_of(thing, 2) or not is_one_of(thing[1], people):
        return False
    return thing[0] == "served" or thing[0] == "spare" or (thing[0] == "gets" and rule == "rings")


def is_question_of(notice, thing):
    return is_question_by(notice.rule(), notice.market().people(), thing)


def all_questions(rule, people):
    """All questions about a notice of this rule and these people."""
    told = [("many",)]
    if rule == "shares":
        told.append(("firm",))
    for person in people:
        told.extend([("served", person), ("spare", person)])
        if rule == "rings":
            told.append(("gets", person))
    return told


def who_is_served(notice):
    """The people who are served, None where no pairing is firm."""
    market = notice.market()
    if notice.rule() == "rings":
        return [person for person, thing in firm_allotment(market).items() if thing != person]
    if notice.rule() == "pairs":
        return served(market, notice.needs())
    mates = firm_pairing(market)
    return None if mates is None else [person for person, mate in mates.items() if mate is not None]


def notice_without(notice, names):
    """The notice when these people are not there, nor in others' rows."""
    market = notice.market()
    people = [person for person in market.people() if person not in names]
    rows = market.wishes()
    wishes = {person: [other for other in rows[person] if other not in names] for person in people}
    return Notice(notice.rule(), Market(people, wishes), [person for person in notice.needs() if person not in names])


def is_spare(notice, person):
    """Whether all others who are served would be still without a person, None where that can't be told."""
    ahead = who_is_served(notice)
    behind = who_is_served(notice_without(notice, [person]))
    if ahead is None or behind is None:
        return None
    return all([other in behind for other in ahead if other != person])


def answer_to(notice, question):
    """The answer to a question about the notice."""
    which = question[0]
    if which == "gets":
        return firm_allotment(notice.market())[question[1]]
    if which == "firm":
        return firm_pairing(notice.market()) is not None
    if which == "spare":
        return is_spare(notice, question[1])
    people = who_is_served(notice)
    if people is None:
        return None
    return len(people) if which == "many" else question[1] in people
