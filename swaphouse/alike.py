"""Alike ones: steps of things that are liked alike, and the firm allotments by them."""

from swaphouse.errors import BadNumber, BadPeople, BadSteps, BadWishes
from swaphouse.fitways import Ways
from swaphouse.given import are_unlike, is_ascending, is_list, is_number, is_row_of
from swaphouse.names import people_fault
from swaphouse.segments import fitted, is_segment, points_of, segments_of


def are_steps(thing, person, names):
    """Whether any object is a list of steps of people, all unlike, with the person in the last one."""
    if not is_list(thing) or len(thing) == 0 or not all([is_list(step) and len(step) > 0 for step in thing]):
        return False
    return are_unlike([one for step in thing for one in step], names) and person in thing[-1]


def are_all_steps(thing, people):
    """Whether any object is a dict from some of the people to their steps."""
    if not isinstance(thing, dict):
        return False
    names = {name: True for name in people}
    return all([person in names and are_steps(steps, person, names) for person, steps in thing.items()])


class Steps:
    """People, each with one thing, and their steps: what stands in one step is liked alike."""

    def __init__(self, people, wishes):
        wrong = people_fault(people)
        if wrong is not None:
            raise BadPeople(wrong)
        if not are_all_steps(wishes, people):
            raise BadWishes(wishes)
        self._people = list(people)
        self._rows = {}
        for name in sorted(people):
            self._rows[name] = [sorted(step) for step in wishes.get(name, [[name]])]

    def people(self):
        return list(self._people)

    def wishes(self):
        return {name: [list(step) for step in row] for name, row in self._rows.items()}

    def __eq__(self, other):
        return isinstance(other, Steps) and self._people == other._people and self._rows == other._rows


def rows_in_steps(steps):
    if not isinstance(steps, Steps):
        raise BadSteps(steps)
    return steps.wishes()


def some_firm(steps):
    gets = {}
    for _, points in segments_of(rows_in_steps(steps)):
        part, _ = fitted(points)
        if part is None:
            return None
        gets.update(part)
    return {person: gets[person] for person in sorted(gets)}


def none_firm(steps):
    ahead = []
    for people, points in segments_of(rows_in_steps(steps)):
        ahead.append(people)
        _, few = fitted(points)
        if few is not None:
            return (ahead, few)
    return None


def is_none_firm(steps, thing):
    rows = rows_in_steps(steps)
    if not is_row_of(thing, 2):
        return False
    segments, few = thing
    if not is_list(segments) or not is_ascending_row(few, rows):
        return False
    left = {person: True for person in rows}
    points = {}
    for people in segments:
        for person in points:
            del left[person]
        points = points_of(rows, left)
        if not is_ascending_row(people, left) or not is_segment(points, list(people)):
            return False
        points = {person: points[person] for person in people}
    if not all([person in points for person in few]):
        return False
    return len(set([one for person in few for one in points[person]])) < len(few)


def is_ascending_row(thing, names):
    """Whether any object is an ascending list, not empty, of unlike ones of names."""
    return are_unlike(thing, names) and len(thing) > 0 and is_ascending(thing)


def ways_of(rows):
    """The ways of each segment; None if the things of one do not fit its people."""
    segments = segments_of(rows)
    if any([fitted(points)[0] is None for _, points in segments]):
        return None
    return [Ways(people, points) for people, points in segments]


def count_of(all_ways):
    return 0 if all_ways is None else product_of([ways.left() for ways in all_ways])


def product_of(numbers):
    many = 1
    for number in numbers:
        many = many * number
    return many


def count_alike(steps):
    return count_of(ways_of(rows_in_steps(steps)))


def alike_at(steps, number):
    all_ways = ways_of(rows_in_steps(steps))
    many = count_of(all_ways)
    if not is_number(number) or number >= many:
        raise BadNumber(number)
    ways_by = {person: ways for ways in all_ways for person in ways.people()}
    gets = {}
    for person in sorted(ways_by):
        ways = ways_by[person]
        # Whatever the people of this segment choose, all others can choose in so many ways.
        each = many // ways.left()
        gets[person], skipped = ways.choose(person, number // each)
        number = number - each * skipped
        many = each * ways.left()
    return gets
