"""Deeds: what may be done to a notice that lives, and to what is watched of it.

What is watched is a list of pairs (question, whether it is held).
"""

from swaphouse.errors import BadDeed, BadName, BadPlace, BadQuestion, BadRow, IsWatched, NotWatched
from swaphouse.given import is_number, is_row_of, row_fault
from swaphouse.markets import Market
from swaphouse.names import is_name
from swaphouse.notices import Notice
from swaphouse.questions import is_question_of, notice_without, who_is_served

# By the word that a deed begins with, how many parts it has.
PARTS = {"come": 3, "leave": 2, "want": 3, "need": 3, "carry": 1, "watch": 2, "hold": 2, "free": 2}


def is_deed(thing):
    """Whether any object has the form of a deed."""
    if not isinstance(thing, (list, tuple)) or len(thing) == 0 or not isinstance(thing[0], str):
        return False
    return thing[0] in PARTS and is_row_of(thing, PARTS[thing[0]])


def check_deed(notice, watched, deed):
    """Check any object that is to be done; what comes of it is not looked at."""
    if not is_deed(deed):
        raise BadDeed(deed)
    if deed[0] in ("come", "leave", "want", "need"):
        check_of_person(notice, deed)
    elif deed[0] != "carry":
        check_of_question(notice, watched, deed)


def check_of_person(notice, deed):
    word = deed[0]
    name = deed[1]
    people = notice.market().people()
    if (name in people) == (word == "come") or not is_name(name):
        raise BadName(name)
    if word == "come" or word == "want":
        wrong = row_fault(deed[2], name, people)
        if wrong is not None:
            raise BadRow(wrong)
    if word == "need" and (not is_number(deed[2]) or deed[2] >= len(notice.needs())):
        raise BadPlace(deed[2])


def check_of_question(notice, watched, deed):
    word, thing = deed
    if not is_question_of(notice, thing):
        raise BadQuestion(thing)
    question = tuple(thing)
    is_held = {one: held for one, held in watched}
    if question in is_held and (word == "watch" or (word == "hold" and is_held[question])):
        raise IsWatched(question)
    if question not in is_held and word == "free":
        raise NotWatched(question)


def kept_deed(deed):
    """A deed as it is kept, tuples at every depth."""
    return tuple([tuple(part) if isinstance(part, list) else part for part in deed])


def notice_behind(notice, deed):
    """The notice behind a deed."""
    word = deed[0]
    if word == "leave":
        return notice_without(notice, [deed[1]])
    if word == "carry":
        served = who_is_served(notice)
        return notice if served is None else notice_without(notice, served)
    people = notice.market().people()
    wishes = notice.market().wishes()
    needs = notice.needs()
    if word == "come":
        people.append(deed[1])
        if notice.rule() == "pairs":
            needs.append(deed[1])
    if word == "come" or word == "want":
        wishes[deed[1]] = list(deed[2])
    if word == "need":
        needs.remove(deed[1])
        needs.insert(deed[2], deed[1])
    return Notice(notice.rule(), Market(people, wishes), needs)


def watched_behind(watched, deed):
    """What is watched behind a deed."""
    word = deed[0]
    if word == "watch":
        return watched + [(deed[1], False)]
    if word == "free":
        return [(question, held) for question, held in watched if question != deed[1]]
    if word != "hold":
        return list(watched)
    if deed[1] in [question for question, _ in watched]:
        return [(question, held or question == deed[1]) for question, held in watched]
    return watched + [(deed[1], True)]
