"""The only rule: what is wrong with any other one, on small markets."""

from swaphouse.errors import BadPeople, NoRule
from swaphouse.given import is_list, is_one_of, is_row, is_row_of
from swaphouse.likes import is_allotment, is_better
from swaphouse.markets import Market
from swaphouse.names import people_fault
from swaphouse.nofunctions import is_no_function

MOST = 3


def check_rule(rule, people):
    if is_no_function(rule):
        raise NoRule(rule)
    wrong = people_fault(people[:MOST] if is_list(people) else people)
    if wrong is None and len(people) > MOST:
        wrong = MOST
    if wrong is not None:
        raise BadPeople(wrong)


def rows_from(names):
    """All rows of some of the names, ascending."""
    rows = [[]]
    longest = [[]]
    for _ in names:
        longest = [row + [name] for row in longest for name in names if name not in row]
        rows = rows + longest
    return sorted(rows)


def all_choices(choices):
    """All lists of one of the first choices, one of the second ones, and so on, in the order of the choices."""
    told = [[]]
    for ones in choices:
        told = [ahead + [one] for ahead in told for one in ones]
    return told


def rows_for(people, person):
    return rows_from([name for name in people if name != person])


def all_wishes(people):
    """The wishes of all markets of the people, ascending by the lists of the rows, in order."""
    return [dict(zip(people, rows)) for rows in all_choices([rows_for(people, person) for person in people])]


def all_deals(people):
    """All allotments, ascending by the lists of the things of all people, in order."""
    orders = all_choices([sorted(people) for _ in people])
    return [dict(zip(people, things)) for things in orders if len(set(things)) == len(things)]


def answer(rule, people, wishes):
    """The allotment that the rule tells for a market, kept apart from what the rule may fill anew; None for no one."""
    told = rule(Market(people, wishes))
    return dict(told) if is_allotment(told, people) else None


def who_gets_unnamed(people, wishes, gets):
    """The people, in order, who get somebody's thing that is not in their row."""
    return [person for person in people if gets[person] != person and gets[person] not in wishes[person]]


def is_bettered(wishes, gets, deal):
    """Whether a deal makes nobody worse off than what they get, and somebody better."""
    if any([is_better(wishes[person], person, gets[person], deal[person]) for person in gets]):
        return False
    return any([is_better(wishes[person], person, deal[person], gets[person]) for person in gets])


def fault_at(people, wishes, gets):
    """What is wrong at one market with what the rule tells, None being no allotment; None if nothing is."""
    if gets is None:
        return ("form", Market(people, wishes))
    unnamed = who_gets_unnamed(people, wishes, gets)
    if unnamed:
        return ("own", Market(people, wishes), unnamed[0])
    for deal in all_deals(people):
        if is_bettered(wishes, gets, deal):
            return ("better", Market(people, wishes), {person: deal[person] for person in sorted(deal)})
    return None


def key_of(people, wishes):
    return tuple([tuple(wishes[person]) for person in people])


def lie_among(people, all_gets):
    """The first lie by which a person gains; by key, ascending, what all get by all wishes of the people."""
    for wishes in all_wishes(people):
        gets = all_gets[key_of(people, wishes)]
        for person in people:
            for row in rows_for(people, person):
                told = all_gets[key_of(people, {**wishes, person: row})]
                if is_better(wishes[person], person, told[person], gets[person]):
                    return ("lie", Market(people, wishes), person, row)
    return None


def rule_fault(rule, people):
    check_rule(rule, people)
    all_gets = {}
    for wishes in all_wishes(people):
        gets = answer(rule, people, wishes)
        fault = fault_at(people, wishes, gets)
        if fault is not None:
            return fault
        all_gets[key_of(people, wishes)] = gets
    return lie_among(people, all_gets)


def has_form(people, thing):
    """Whether any object has the form of a fault at a market of these people."""
    if not is_list(thing) or len(thing) < 2 or not isinstance(thing[1], Market) or thing[1].people() != list(people):
        return False
    if thing[0] == "form":
        return is_row_of(thing, 2)
    if thing[0] == "own":
        return is_row_of(thing, 3) and is_one_of(thing[2], people)
    if thing[0] == "better":
        return is_row_of(thing, 3) and is_allotment(thing[2], people)
    if thing[0] != "lie" or not is_row_of(thing, 4) or not is_one_of(thing[2], people):
        return False
    return is_row(thing[3], thing[2], people)


def is_rule_fault(rule, people, thing):
    check_rule(rule, people)
    if not has_form(people, thing):
        return False
    kind = thing[0]
    wishes = thing[1].wishes()
    gets = answer(rule, people, wishes)
    if kind == "form" or gets is None:
        return kind == "form" and gets is None
    if kind == "own":
        return thing[2] in who_gets_unnamed(people, wishes, gets)
    if kind == "better":
        return is_bettered(wishes, gets, thing[2])
    told = answer(rule, people, {**wishes, thing[2]: thing[3]})
    return told is not None and is_better(wishes[thing[2]], thing[2], told[thing[2]], gets[thing[2]])
