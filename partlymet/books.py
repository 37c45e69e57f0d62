"""Books of functions, and what their calls keep."""

from partlymet.cases import near_places
from partlymet.compare import agreed, measures, nearest_parting
from partlymet.contracts import implied
from partlymet.errors import BadName, HasRegisters, NoFunction, OtherPointers, Taken, TooMany
from partlymet.programs import read_program
from partlymet.running import spot_cells, whole_run
from partlymet.texts import is_name

DEEPEST = 5


class Function:
    """A function: a program, and what it needs. Its `depth` tells how deep it is."""

    def __init__(self, program, needed):
        if program.pointers != needed.pointers:
            raise OtherPointers()
        if program.body.has_registers:
            raise HasRegisters()
        self.program = program
        self.needed = needed
        self.pointers = program.pointers
        calls = program.body.calls
        self.depth = 1 + max([calls[name].depth for name in calls], default=0)


class Book:
    """Functions under names."""

    def __init__(self):
        self.functions = {}

    def __setitem__(self, name, function):
        if not is_name(name):
            raise BadName(name)
        if name in self.functions:
            raise Taken(name)
        if function.depth > DEEPEST:
            raise TooMany(DEEPEST)
        self.functions[name] = function

    def __getitem__(self, name):
        if name not in self.functions:
            raise NoFunction(name)
        return self.functions[name]

    def __contains__(self, name):
        return name in self.functions

    def __len__(self):
        return len(self.functions)

    def __iter__(self):
        raise TypeError("a book is not iterated over")

    def names(self):
        """The names of the functions, in the order in which they were put in."""
        return list(self.functions)

    def read(self, pointers, text):
        """A program that may call the functions that the book has now."""
        return read_program(pointers, text, self.functions)


def broken_calls(program, *, under=None):
    """The calls of a program that can break a line of what is needed, with the nearest such places."""
    facts = agreed([program], under)
    found = {}
    width, far, modulus = measures([program], [facts])
    for places in near_places(len(program.pointers), width, far, modulus):
        if facts.keeps(places):
            for line, _, index in false_lines(program, places):
                found.setdefault((line, index), places)
    return [(line, index, found[(line, index)]) for line, index in sorted(found)]


def may_replace(f, g):
    """Whether function g may replace function f."""
    if len(f.pointers) != len(g.pointers) or not implied(f.needed, g.needed):
        return False
    return nearest_parting(f.program, g.program, f.needed) is None


def kept_needs(book, roots):
    """For each name the indexes of the lines that are kept at all calls."""
    gone = {(name, index): True for name, index, _, _, _ in left_out(book, roots)}
    kept = {}
    for name in book.names():
        kept[name] = [index for index in range(len(book[name].needed)) if (name, index) not in gone]
    return kept


def left_out(book, roots):
    """Why the other lines are left out: tuples of name, index, caller, line and places."""
    for program, facts in roots:
        agreed([program], facts)
    tables = caller_tables(book, roots)
    gone = {}
    told = []
    before = -1
    # With each line that is left out, more places count for the function that needed it.
    while before < len(told):
        before = len(told)
        for caller, table in tables:
            for places, false, calls in table:
                if all([(caller, index) in gone for index in false]):
                    for line, name, index in calls:
                        if (name, index) not in gone:
                            gone[(name, index)] = True
                            told.append((name, index, caller, line, places))
    return told


def caller_tables(book, roots):
    """For each caller a table: places, the needed lines that are false there, and what is false at its calls.

    Of the places of a root only those count that keep its contract.
    """
    tables = []
    for index, (program, facts) in enumerate(roots):
        table = [row for row in call_table(program, facts) if not row[1]]
        tables.append((index, table))
    for name in book.names():
        function = book[name]
        tables.append((name, call_table(function.program, function.needed)))
    return tables


def call_table(program, facts):
    """The places that are enough, with the facts that are false there, and what is false at calls."""
    table = []
    # Who calls nothing asks no question, however many cases there would be.
    if not program.body.calls:
        return table
    width, far, modulus = measures([program], [facts])
    for places in near_places(len(program.pointers), width, far, modulus):
        calls = false_lines(program, places)
        if calls:
            table.append((places, facts.broken(places), calls))
    return table


def false_lines(program, places):
    """For the run from some places: call line, name and index of each needed line that is false at a call."""
    found = {}
    for line, now, _, _ in whole_run(program.body, places, True).log:
        if line.word == "call":
            name, function, spots = line.told
            for index in function.needed.broken(spot_cells(now, spots)):
                found[(line.number, name, index)] = True
    return sorted(found)
