"""What is asked of any object that is passed."""

from swaphouse.errors import BadNumber


def is_list(thing):
    return isinstance(thing, (list, tuple))


def is_row_of(thing, many):
    """Whether an object is a list of just so many things."""
    return is_list(thing) and len(thing) == many


def is_number(thing):
    return isinstance(thing, int) and not isinstance(thing, bool) and thing >= 0


def is_one_of(thing, names):
    """Whether any object, perhaps one that is no key, is among names."""
    return isinstance(thing, str) and thing in names


def first_wrong(things, fits):
    """The index of the first thing that is no string, does not fit, or stood before; None if there is none."""
    seen = set()
    for at, thing in enumerate(things):
        if not isinstance(thing, str) or thing in seen or not fits(thing):
            return at
        seen.add(thing)
    return None


def are_unlike(thing, names):
    """Whether any object is a list of unlike ones of names."""
    return is_list(thing) and first_wrong(thing, lambda name: name in names) is None


def is_row(thing, person, names):
    """Whether any object is a list of unlike people other than the person."""
    return are_unlike(thing, names) and person not in thing


def row_fault(thing, person, names):
    """The index of the first thing that is none of the other people, or stood before; 0 for no list, or None."""
    if not is_list(thing):
        return 0
    return first_wrong(thing, lambda name: name in names and name != person)


def has_just(thing, names):
    """Whether any object is a dict the keys of which are just names."""
    return isinstance(thing, dict) and len(thing) == len(names) and all([name in thing for name in names])


def is_ascending(names):
    """Whether strings ascend, each one unlike the one ahead."""
    return all([one < other for one, other in zip(names, names[1:])])


def check_number(number):
    if not is_number(number):
        raise BadNumber(number)
