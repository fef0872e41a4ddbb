"""What is wrong with a result's text that has the form of one, by a notice."""


def audit_result(notice, text):
    """None, or the triple (line, sign, why) of the first thing that is wrong with a result's text."""
    rule = notice.rule()
    rows = notice.market().wishes()
    lines = [line.split(" ") for line in text.split("\n")[:-1]]
    # All lines of a result have the same verb.
    if lines and (lines[0][1] == "gets") != (rule == "rings"):
        return (1, 1, "kind")
    for at, (one, verb, other) in enumerate(lines):
        behind = len(one) + len(verb) + 3
        if one not in rows:
            return (at + 1, 1, "who")
        if other not in rows:
            return (at + 1, behind, "who")
        if other not in rows[one] or (rule != "rings" and one not in rows[other]):
            return (at + 1, behind, "wish")
    return deal_fault(lines) if rule == "rings" else None


def deal_fault(lines):
    """What tells of the first line whose first name's own thing nobody gets."""
    got = {line[2]: True for line in lines}
    for at, line in enumerate(lines):
        if line[0] not in got:
            return (at + 1, 1, "deal")
    return None
