"""Papers as texts: rings, or blocks of who is left out, and why."""

from swaphouse.errors import BadPaper
from swaphouse.given import first_wrong, is_list, is_row_of
from swaphouse.names import AnyName, is_name
from swaphouse.textreading import check_text, names_told, row_line_on, text_fault, whole_row

RING = "ring "
OUT = "out "
WITHOUT = "without "
LOT = "lot "


def are_rows_of_names(thing):
    """Whether any object is a list of lists, none empty."""
    return is_list(thing) and all([is_list(row) and len(row) > 0 for row in thing])


def all_in(rows):
    return [name for row in rows for name in row]


def are_rings(thing):
    return are_rows_of_names(thing) and first_wrong(all_in(thing), is_name) is None


def is_block(thing):
    if not is_row_of(thing, 3):
        return False
    person, few, lots = thing
    if not is_name(person) or not is_list(few) or not are_rows_of_names(lots):
        return False
    return first_wrong(list(few) + all_in(lots), is_name) is None


def are_blocks(thing):
    if not is_list(thing) or len(thing) == 0 or not all([is_block(block) for block in thing]):
        return False
    return first_wrong([block[0] for block in thing], is_name) is None


def is_paper(thing):
    """Whether any object is a paper."""
    if not is_row_of(thing, 2):
        return False
    if thing[0] == "rings":
        return are_rings(thing[1])
    return thing[0] == "blocks" and are_blocks(thing[1])


class PaperReader:
    """A reader, as textreading.py tells, of the lines of a paper."""

    def __init__(self):
        self._rings = []
        self._blocks = []
        self._persons = {}
        # Who stands in the rings, or in the few and the lots of the last block.
        self._taken = {}

    def take(self, line):
        if line.startswith(RING):
            return self._take_ring(line[len(RING):])
        if line.startswith(OUT):
            return self._take_out(line[len(OUT):])
        if line.startswith(LOT):
            return self._take_lot(line[len(LOT):])
        return False

    def _take_row(self, told):
        row = whole_row(told, AnyName(), self._taken)
        if row is None:
            return None
        for name in row:
            self._taken[name] = True
        return row

    def _take_ring(self, told):
        row = None if self._blocks else self._take_row(told)
        if row is None:
            return False
        self._rings.append(row)
        return True

    def _take_out(self, told):
        person, without, names = told.partition(" " + WITHOUT)
        if self._rings or not self._may_be_out(person):
            return False
        few = []
        if without != "":
            few = whole_row(names, AnyName(), {})
            if few is None:
                return False
        self._taken = {name: True for name in few}
        self._persons[person] = True
        self._blocks.append((person, few, []))
        return True

    def _may_be_out(self, person):
        return is_name(person) and person not in self._persons

    def _take_lot(self, told):
        row = self._take_row(told) if self._blocks else None
        if row is None:
            return False
        self._blocks[-1][2].append(row)
        return True

    def line_on(self, part):
        line = None
        if not self._blocks:
            line = row_line_on(RING, part, AnyName(), self._taken)
        if line is None and not self._rings:
            line = self._out_on(part)
        if line is None and self._blocks:
            line = row_line_on(LOT, part, AnyName(), self._taken)
        return line

    def _out_on(self, part):
        if OUT.startswith(part):
            return OUT + AnyName().first("", self._persons)
        if not part.startswith(OUT):
            return None
        person, blank, rest = part[len(OUT):].partition(" ")
        if blank != "":
            few = row_line_on(WITHOUT, rest, AnyName(), {}) if self._may_be_out(person) else None
            return None if few is None else OUT + person + " " + few
        person = AnyName().first(person, self._persons)
        return None if person is None else OUT + person

    def whole(self):
        return True

    def paper(self):
        if self._blocks:
            return ("blocks", [(person, list(few), [list(lot) for lot in lots]) for person, few, lots in self._blocks])
        return ("rings", [list(ring) for ring in self._rings])


def block_lines(block):
    person, few, lots = block
    line = OUT + person
    if len(few) > 0:
        line = line + " " + WITHOUT + names_told(few)
    return [line] + [LOT + names_told(lot) for lot in lots]


def paper_text(paper):
    if not is_paper(paper):
        raise BadPaper(paper)
    which, told = paper
    if which == "rings":
        lines = [RING + names_told(ring) for ring in told]
    else:
        lines = all_in([block_lines(block) for block in told])
    return "".join([line + "\n" for line in lines])


def paper_fault(text):
    return text_fault(text, PaperReader())


def read_paper(text):
    reader = PaperReader()
    check_text(text, reader)
    return reader.paper()
