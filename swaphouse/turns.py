"""Turns: rings of things each of which is known to be liked better than the next one, the last one than the first."""


def worse_by(pairs):
    """By thing that is better than others the ascending list of these, each once."""
    told = {}
    for better, worse in pairs:
        told.setdefault(better, {})[worse] = True
    return {better: sorted(told[better]) for better in sorted(told)}


def better_by(pairs):
    """By thing that is worse than others the list of these, each once."""
    return worse_by([(worse, better) for better, worse in pairs])


def far_to(better, goal):
    """By thing from which pairs lead to a goal, how many do so at the fewest."""
    far = {goal: 0}
    waiting = [goal]
    at = 0
    while at < len(waiting):
        thing = waiting[at]
        for other in better.get(thing, []):
            if other not in far:
                far[other] = far[thing] + 1
                waiting.append(other)
        at += 1
    return far


def many_round(worse, start, far):
    """How many things the shortest rings through a thing have, None if there are none; far tells the ways to it."""
    ways = [far[thing] + 1 for thing in worse[start] if thing in far]
    return min(ways) if ways else None


def ring_from(worse, start, far, many):
    """The first of the rings of so many things through a thing, if none through it is shorter."""
    ring = [start]
    while len(ring) < many:
        nearer = [thing for thing in worse[ring[-1]] if thing in far and far[thing] == many - len(ring)]
        ring.append(nearer[0])
    return ring


def first_turn(pairs):
    """The first of the shortest rings, from its least thing on, None if there is none."""
    worse = worse_by(pairs)
    better = better_by(pairs)
    best = None
    for start in worse:
        far = far_to(better, start)
        many = many_round(worse, start, far)
        # No ring that is as short has a lesser thing, else it would have been found from there.
        if many is not None and (best is None or many < len(best)):
            best = ring_from(worse, start, far, many)
    return best
