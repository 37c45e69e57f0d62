"""Programs, and the outcomes of their runs."""

from partlymet.bodies import guarded_body, joined_body, read_body
from partlymet.errors import BadCount, HasRegisters, OtherPointers
from partlymet.running import ending, text_of, whole_run
from partlymet.texts import check_places, read_pointers

MOST_TIMES = 5


class Program:
    """A program over some pointers. Its `body` is what it does."""

    def __init__(self, pointers, text):
        self.pointers = read_pointers(pointers)
        self.text = text
        self.body = read_body(self.pointers, text, {})
        self.reach = self.body.reach
        self.far = self.body.far
        self.modulus = self.body.modulus

    def run(self, places):
        """The outcome of the run from these places."""
        check_places(self.pointers, places)
        given, cells = ending(self.body, places)
        texts = [tuple([text_of(content) for content in row]) for row in given]
        return Outcome(tuple(texts), {cell: text_of(cells[cell]) for cell in sorted(cells)})

    def __call__(self, places):
        return self.run(places)

    def steps(self, places):
        """Yields the line, the places and the written cells behind each deed."""
        check_places(self.pointers, places)
        log = whole_run(self.body, places, True).log
        for line, now, _, written in log:
            yield line.number, now, [(cell, text_of(content)) for cell, content in written]

    def reads(self, places):
        """The cells that are read in the run from these places."""
        check_places(self.pointers, places)
        log = whole_run(self.body, places, True).log
        return sorted({cell for _, _, read, _ in log for cell in read})

    def writes(self, places):
        """The cells that are written in the run from these places."""
        check_places(self.pointers, places)
        log = whole_run(self.body, places, True).log
        return sorted({cell for _, _, _, written in log for cell, _ in written})

    def __add__(self, other):
        if self.pointers != other.pointers:
            raise OtherPointers()
        if self.body.has_registers or other.body.has_registers:
            raise HasRegisters()
        return put_together([self, other])

    def __mul__(self, other):
        if self.body.has_registers:
            raise HasRegisters()
        if not 1 <= other <= MOST_TIMES:
            raise BadCount(other)
        return put_together([self] * other)

    def __eq__(self, other):
        return isinstance(other, Program) and self.pointers == other.pointers and self.text == other.text


def body_program(pointers, text, body):
    """The program that does what this body does."""
    program = Program(pointers, "")
    program.text = text
    program.body = body
    program.reach = body.reach
    program.far = body.far
    program.modulus = body.modulus
    return program


def read_program(pointers, text, functions):
    """The program of a text, which may call these functions."""
    names = read_pointers(pointers)
    return body_program(names, text, read_body(names, text, functions))


def put_together(programs):
    """The program that does some programs over the same pointers one after another."""
    text = "\n".join([program.text for program in programs if program.text])
    return body_program(programs[0].pointers, text, joined_body([program.body for program in programs]))


def guarded_program(p, q, chosen, options):
    """The program that does q if the first places keep the chosen facts of the options, and p otherwise."""
    # It has no text that says what it does; the empty one does not grow where guards stand in guards.
    return body_program(p.pointers, "", guarded_body(p.body, q.body, chosen, options))


class Outcome:
    """The outcome of a run: what registers were given, and what the changed cells hold."""

    def __init__(self, given, cells):
        self.given = given
        self.cells = cells

    def changed(self):
        """A dict from the changed cells to what they hold."""
        return dict(self.cells)

    def __getitem__(self, cell):
        return self.cells[cell] if cell in self.cells else f"@{cell}"

    def __contains__(self, cell):
        return cell in self.cells

    def __len__(self):
        return len(self.cells)

    def __eq__(self, other):
        return isinstance(other, Outcome) and self.given == other.given and self.cells == other.cells

    def __iter__(self):
        raise TypeError("an outcome is not iterated over")
