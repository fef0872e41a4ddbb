"""Lots' papers: few people, and lots of an odd number the people of which are tied to one another and these few alone.

Ties here are a dict, near, from all people, ascending, to the ascending lists of those to whom each is tied.
"""

from swaphouse.given import is_list, is_one_of, is_row_of


def lots_of(near, people):
    """The ascending lists, ascending, of those who come to one another by ties among these people."""
    left = {person: True for person in people}
    lots = []
    for start in sorted(people):
        if start in left:
            lot = [start]
            del left[start]
            at = 0
            while at < len(lot):
                more = [other for other in near[lot[at]] if other in left]
                for other in more:
                    del left[other]
                lot.extend(more)
                at += 1
            lots.append(sorted(lot))
    return lots


def paper_of(near, people):
    """A pair (few, lots): all others tied to one of these people, and these, in lots by ties."""
    inside = {person: True for person in people}
    few = sorted(set([other for person in people for other in near[person] if other not in inside]))
    return (few, lots_of(near, people))


def are_people(thing, near):
    return is_list(thing) and all([is_one_of(one, near) for one in thing])


def has_lots_form(thing, near):
    """Whether any object is a pair of a list and a list of lists, all of people."""
    if not is_row_of(thing, 2) or not are_people(thing[0], near) or not is_list(thing[1]):
        return False
    return all([are_people(lot, near) for lot in thing[1]])


def first_again(names):
    """The first name that stood before, None if there is none."""
    seen = set()
    for name in names:
        if name in seen:
            return name
        seen.add(name)
    return None


def tie_out(near, few, lots):
    """The first of the lots who is tied to somebody neither of its lot nor of few, and the first such one; or None."""
    for lot in lots:
        for one in lot:
            for other in near[one]:
                if other not in lot and other not in few:
                    return (one, other)
    return None


def lots_fault(near, thing):
    """What is wrong with any object that should be a lots' paper, None if nothing is."""
    if not has_lots_form(thing, near):
        return ("form",)
    few, lots = thing
    again = first_again(list(few) + [person for lot in lots for person in lot])
    if again is not None:
        return ("again", again)
    for index, lot in enumerate(lots):
        if len(lot) % 2 == 0:
            return ("even", index)
    tie = tie_out(near, few, lots)
    return None if tie is None else ("tie", tie[0], tie[1])
