"""What a name is, and names that begin in some way."""

from swaphouse.given import first_wrong, is_list

LETTERS = "abcdefghijklmnopqrstuvwxyz"
SIGNS = "abcdefghijklmnopqrstuvwxyz0123456789"
LONGEST = 8
WORDS = ("rule", "person", "wants", "needs", "gets", "with", "ring", "out", "without", "lot", "watch", "hold")


def begins_name(part):
    """Whether the signs of a string may begin a name; no signs at all may."""
    if len(part) > LONGEST:
        return False
    if part != "" and part[0] not in LETTERS:
        return False
    return all([sign in SIGNS for sign in part])


def is_name(thing):
    """Whether any object is a name."""
    return isinstance(thing, str) and thing != "" and begins_name(thing) and thing not in WORDS


def people_fault(people):
    """The index of the first thing that is no name or stood before, 0 for no list; None if there is none."""
    if not is_list(people):
        return 0
    return first_wrong(people, is_name)


def longer_by_one(part):
    if len(part) == LONGEST:
        return []
    if part == "":
        return list(LETTERS)
    return [part + sign for sign in SIGNS]


class AnyName:
    """The stock of all names there are."""

    def has(self, name):
        return is_name(name)

    def first(self, part, taken):
        """A name that begins with part and is not taken, the shorter ones first; None if they ran out."""
        parts = [part] if begins_name(part) else []
        while parts:
            for name in parts:
                if is_name(name) and name not in taken:
                    return name
            # All so long are taken or words, so the longer ones are few times as many as those taken.
            parts = [longer for ahead in parts for longer in longer_by_one(ahead)]
        return None


class NameOf:
    """The stock of the names in a dict alone, of those too that come into it later."""

    def __init__(self, names):
        self._names = names

    def has(self, name):
        return name in self._names

    def first(self, part, taken):
        """The first one that begins with part and is not taken; None if there is none."""
        for name in self._names:
            if name.startswith(part) and name not in taken:
                return name
        return None
