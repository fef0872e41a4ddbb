"""What the tests of audits and refusals use: what is right by trial, all results and papers of few people, a plain audit."""

from itertools import combinations, permutations, product

from examples import deals, is_firm_by_trial, small_markets
from pairtrials import lot_markets, near_by_trial, orders, pairings_by_trial, served_in
from sharetrials import firm_by_trial, sharing_by_trial, some_markets

from swaphouse.notices import Notice


def gets_result(deal):
    return ("gets", {name: deal[name] for name in sorted(deal) if deal[name] != name})


def with_result(pairing):
    pairs = [(one, pairing[one]) for one in sorted(pairing) if pairing[one] is not None and one < pairing[one]]
    return ("with", pairs) if pairs else ("gets", {})


def taken_by_trial(market, needs):
    """Whom the needy first serve: of all lots that a pairing serves the first one, by needs."""
    best = max(([name in served_in(told) for name in needs] for told in pairings_by_trial(market)))
    return {name for name, is_served in zip(needs, best) if is_served}


def right_by_trial(notice):
    """All results that are right, by the words of [80]."""
    market = notice.market()
    if notice.rule() == "rings":
        return [gets_result(deal) for deal in deals(market.people()) if is_firm_by_trial(market, deal)]
    if notice.rule() == "pairs":
        taken = taken_by_trial(market, notice.needs())
        return [with_result(told) for told in pairings_by_trial(market) if served_in(told) == taken]
    firm = firm_by_trial(market)
    return [with_result(told) for told in firm] if firm else [("gets", {})]


def all_matchings(names):
    """All lists of unlike people's pairs, ascending."""
    if not names:
        return [[]]
    first, rest = names[0], names[1:]
    found = list(all_matchings(rest))
    for other in rest:
        found += [[(first, other)] + pairs for pairs in all_matchings([name for name in rest if name != other])]
    return found


def all_gets(names):
    """All dicts of unlike people to unlike others."""
    found = []
    for many in range(len(names) + 1):
        for ones in combinations(names, many):
            for others in permutations(names, many):
                if all(one != other for one, other in zip(ones, others)):
                    found.append(dict(zip(ones, others)))
    return found


def all_results(notice):
    """All results of the rule's kind, of these people."""
    names = sorted(notice.market().people())
    if notice.rule() == "rings":
        return [("gets", told) for told in all_gets(names)]
    return [("with", pairs) if pairs else ("gets", {}) for pairs in all_matchings(names)]


def all_ring_papers(names):
    """All lists of rings of unlike people, beginning with anybody."""
    found = []
    for many in range(len(names) + 1):
        for row in permutations(sorted(names), many):
            for cuts in product((False, True), repeat=max(0, many - 1)):
                rings = [[row[0]]] if row else []
                for name, cut in zip(row[1:], cuts):
                    if cut:
                        rings.append([name])
                    else:
                        rings[-1].append(name)
                found.append(("rings", rings))
    return found


def small_notices(chance, many):
    """All notices of up to two people, so many of three, some of four."""
    found = []
    markets = [market for names in ([], ["a"], ["b", "a"]) for market in small_markets(names)]
    markets += chance.sample(small_markets(["b", "c", "a"]), many)
    for market in markets + some_markets(chance, many // 4, [4]):
        found += [Notice("rings", market, []), Notice("shares", market, [])]
    for market in markets + chance.sample(lot_markets(["c", "a", "d", "b"]), many):
        found += [Notice("pairs", market, needs) for needs in orders(chance, market, 2)]
    return found


def place(row, name, thing):
    return (row + [name]).index(thing) if thing in row + [name] else len(row) + 1


def likes(row, name, one, other):
    return place(row, name, one) < place(row, name, other)


def spots(text):
    """The lines of a text, each a list of pairs of a name and its sign."""
    told = []
    for line in text.split("\n")[:-1]:
        words = line.replace(",", " ").split(" ")
        signs = [sum(len(word) + 1 for word in words[:at]) + 1 for at in range(len(words))]
        told.append([(word, sign) for word, sign in zip(words, signs) if word not in ("", "ring", "out", "without", "lot", "gets", "with")])
    return told


def result_faults(notice, text):
    """All faults of [81] behind the form, each with a key by which they are in order."""
    rows = notice.market().wishes()
    by_rings = notice.rule() == "rings"
    lines = spots(text)
    if any((" gets " in line) != by_rings for line in text.split("\n")[:-1]):
        yield (0,), (1, 1, "kind")
    for at, [(one, _), (other, sign)] in enumerate(lines):
        if one not in rows:
            yield (1, at, 0), (at + 1, 1, "who")
        if other not in rows:
            yield (1, at, 1), (at + 1, sign, "who")
        elif one in rows and (other not in rows[one] or not by_rings and one not in rows[other]):
            yield (1, at, 2), (at + 1, sign, "wish")
        if by_rings and all(line[1][0] != one for line in lines):
            yield (2, at), (at + 1, 1, "deal")


def ring_faults(notice, gets, lines):
    rows = notice.market().wishes()
    for at, line in enumerate(lines):
        above = [name for ahead in lines[:at] for name, _ in ahead]
        for number, (name, sign) in enumerate(line):
            if name not in rows:
                yield (1, at, number, 0), (at + 1, sign, "who")
                continue
            thing = gets.get(name, name)
            if line[(number + 1) % len(line)][0] != thing:
                yield (1, at, number, 1), (at + 1, sign, "other")
            if any(likes(rows[name], name, one, thing) and one not in above for one in rows):
                yield (1, at, number, 2), (at + 1, sign, "early")
    if {name for line in lines for name, _ in line} < set(rows):
        yield (3, 0), (len(lines) + 1, 1, "lacks")


def share_faults(notice, mates, lines):
    rows = sharing_by_trial(notice.market())
    ahead = {name: line[number - 1][0] for line in lines for number, (name, _) in enumerate(line)}
    passed = []
    for at, line in enumerate(lines):
        for number, (name, sign) in enumerate(line):
            if name not in rows:
                yield (1, at, number, 0), (at + 1, sign, "who")
                passed.append(name)
                continue
            behind = line[(number + 1) % len(line)][0]
            if len(line) > 1 and behind not in rows[name]:
                yield (1, at, number, 1), (at + 1, sign, "tie")
            if len(line) > 2 and not likes(rows[name], name, behind, ahead[name]):
                yield (1, at, number, 2), (at + 1, sign, "turned")
            if any(other in rows[name] and likes(rows[name], name, other, ahead[name])
                   and likes(rows[other], other, name, ahead[other]) for other in passed):
                yield (1, at, number, 3), (at + 1, sign, "leave")
            passed.append(name)
            if max(len(one) for one in lines) < 3:
                other = line[1 - number][0] if len(line) == 2 else None
                if mates.get(name) != other:
                    yield (2, at, number), (at + 1, sign, "other")
        if len(line) in (4, 6, 8):
            yield (1, at, 99), (at + 1, 1, "even")
    if set(passed) < set(rows):
        yield (3, 0), (len(lines) + 1, 1, "lacks")
    if any(len(line) in (3, 5, 7) for line in lines) and mates:
        yield (3, 1), (len(lines) + 1, 1, "odd")


def block_faults(notice, mates, lines, heads):
    rows, needs, near = notice.market().wishes(), notice.needs(), near_by_trial(notice.market())
    starts = [at for at, head in enumerate(heads) if head == "out"]
    for start, end in zip(starts, starts[1:] + [len(lines)]):
        out, few = lines[start][0][0], [name for name, _ in lines[start][1:]]
        for at in range(start, end):
            names = [name for name, _ in lines[at]]
            for number, (name, sign) in enumerate(lines[at]):
                if name not in rows:
                    yield (1, at, number, 0), (at + 1, sign, "who")
                elif at == start and number == 0 and name in mates:
                    yield (1, at, number, 1), (at + 1, sign, "served")
                elif at > start and out in needs:
                    if name != out and not (name in mates and needs.index(name) < needs.index(out)):
                        yield (1, at, number, 1), (at + 1, sign, "lot")
                    if any(other not in names + few for other in near[name]):
                        yield (1, at, number, 2), (at + 1, sign, "tie")
            if at > start and len(names) % 2 == 0:
                yield (1, at, 99), (at + 1, 1, "even")
        if end - start - 1 <= len(few):
            yield (1, end - 1, 100), (start + 1, 1, "few")
    if set(rows) - set(mates) - {lines[at][0][0] for at in starts}:
        yield (3, 0), (len(lines) + 1, 1, "lacks")


def paper_faults(notice, result_text, paper_text):
    """All faults of [82], each with a key by which they are in order."""
    heads = [line.split(" ")[0] for line in paper_text.split("\n")[:-1]]
    by_pairs = notice.rule() == "pairs"
    lines = spots(paper_text)
    told = [[name for name, _ in line] for line in spots(result_text)]
    if any((head == "ring") == by_pairs for head in heads):
        return [((0,), (1, 1, "kind"))]
    if notice.rule() == "rings":
        return list(ring_faults(notice, dict(told), lines))
    mates = {one: other for pair in told for one, other in (pair, pair[::-1])}
    if by_pairs:
        return list(block_faults(notice, mates, lines, heads))
    return list(share_faults(notice, mates, lines))


def audit_by_trial(notice, result_text, paper_text):
    """By the words of [81] and [82], of texts that have the form: all faults are found, the first one is told."""
    faults = sorted(result_faults(notice, result_text))
    if faults:
        return ("result",) + faults[0][1]
    faults = sorted(paper_faults(notice, result_text, paper_text))
    return ("paper",) + faults[0][1] if faults else None
