"""Programs, and the outcomes of their runs."""

from partlymet.blocks import block_of
from partlymet.errors import BadCount, HasRegisters, OtherPointers
from partlymet.facts import far_of, modulus_of
from partlymet.layout import read_rows
from partlymet.offsets import offsets_of, reach_of
from partlymet.running import ending, text_of, whole_run
from partlymet.texts import check_places, read_pointers

MOST_TIMES = 5


class Program:
    """A program over some pointers. Its `parts` are blocks that are done one after another."""

    def __init__(self, pointers, text):
        self.pointers = read_pointers(pointers)
        self.text = text
        rows, widths = read_rows(self.pointers, text)
        block, _ = block_of(rows, widths, 0)
        tests = [told[0] for word, told in rows if word == "when"]
        self.parts = (block,)
        self.offsets = offsets_of(block, len(self.pointers))
        self.reach = reach_of(self.offsets)
        self.far = far_of(tests)
        self.modulus = modulus_of(tests)
        self.has_registers = any([word in ("input", "give") for word, _ in rows])

    def run(self, places):
        """The outcome of the run from these places."""
        check_places(self.pointers, places)
        given, cells = ending(self.parts, places)
        texts = [tuple([text_of(content) for content in row]) for row in given]
        return Outcome(tuple(texts), {cell: text_of(cells[cell]) for cell in sorted(cells)})

    def __call__(self, places):
        return self.run(places)

    def steps(self, places):
        """Yields the line, the places and the written cells behind each deed."""
        check_places(self.pointers, places)
        log = whole_run(self.parts, places, True).log
        for line, now, _, written in log:
            yield line, now, written

    def reads(self, places):
        """The cells that are read in the run from these places."""
        check_places(self.pointers, places)
        log = whole_run(self.parts, places, True).log
        return sorted({cell for _, _, read, _ in log for cell in read})

    def writes(self, places):
        """The cells that are written in the run from these places."""
        check_places(self.pointers, places)
        log = whole_run(self.parts, places, True).log
        return sorted({cell for _, _, _, written in log for cell, _ in written})

    def __add__(self, other):
        if self.pointers != other.pointers:
            raise OtherPointers()
        if self.has_registers or other.has_registers:
            raise HasRegisters()
        return put_together([self, other])

    def __mul__(self, other):
        if self.has_registers:
            raise HasRegisters()
        if not 1 <= other <= MOST_TIMES:
            raise BadCount(other)
        return put_together([self] * other)

    def __eq__(self, other):
        return isinstance(other, Program) and self.pointers == other.pointers and self.text == other.text


def put_together(programs):
    """The program that does some programs over the same pointers one after another."""
    pointers = programs[0].pointers
    offsets = [
        reach_of([program.offsets[index] for program in programs]) for index in range(len(pointers))
    ]
    whole = Program(pointers, "")
    whole.text = "\n".join([program.text for program in programs])
    whole.parts = tuple([block for program in programs for block in program.parts])
    whole.offsets = tuple(offsets)
    whole.reach = reach_of(offsets)
    whole.far = far_of(programs)
    whole.modulus = modulus_of(programs)
    return whole


class Outcome:
    """The outcome of a run: what registers were given, and what the changed cells hold."""

    def __init__(self, given, cells):
        self.given = given
        self.cells = cells

    def changed(self):
        """A dict from the changed cells to what they hold."""
        return dict(self.cells)

    def __getitem__(self, cell):
        return self.cells[cell] if cell in self.cells else f"@{cell}"

    def __contains__(self, cell):
        return cell in self.cells

    def __len__(self):
        return len(self.cells)

    def __eq__(self, other):
        return isinstance(other, Outcome) and self.given == other.given and self.cells == other.cells

    def __iter__(self):
        raise TypeError("an outcome is not iterated over")
