"""What rings tell of wishes, and markets that fit what is known."""

from swaphouse.errors import BadPapers
from swaphouse.given import are_unlike, is_list
from swaphouse.likings import check_known, check_people, likings_of, row_in, turn_among
from swaphouse.markets import Market


def is_paper_of(thing, names):
    """Whether any object is a list of rings of these people in which no name stands twice."""
    if not is_list(thing) or not all([is_list(ring) and len(ring) > 0 for ring in thing]):
        return False
    if not are_unlike([name for ring in thing for name in ring], names):
        return False
    return all([ring[0] == min(ring) for ring in thing])


def papers_fault(papers, names):
    """The index of the first thing that is no paper of these people, 0 for no list; None if there is none."""
    if not is_list(papers):
        return 0
    for index, paper in enumerate(papers):
        if not is_paper_of(paper, names):
            return index
    return None


def note_paper(paper, told):
    """Note by person what a paper tells: what it gets is better than all else of its own and of later rings."""
    for at, ring in enumerate(paper):
        later = [name for one in paper[at:] for name in one]
        for place, person in enumerate(ring):
            thing = ring[(place + 1) % len(ring)]
            for other in later:
                if other != thing:
                    told[person][(thing, other)] = True


def known_by(people, papers):
    check_people(people)
    told = {name: {} for name in sorted(people)}
    wrong = papers_fault(papers, told)
    if wrong is not None:
        raise BadPapers(wrong)
    for paper in papers:
        note_paper(paper, told)
    return {person: sorted(pairs) for person, pairs in told.items()}


def fitting(people, known):
    check_known(people, known)
    likings = likings_of(people, known)
    if turn_among(likings, known) is not None:
        return None
    return Market(people, {person: row_in(liking.order(), person) for person, liking in likings.items()})


def turn(people, known):
    check_known(people, known)
    return turn_among(likings_of(people, known), known)
