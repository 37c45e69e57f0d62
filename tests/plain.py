"""A plain second reading of the document, to test the package against.

It follows the words of the points one by one, on the texts themselves, and takes its time. It
reads only texts that are right. Functions are a dict from names to triples: the pointers, the text
of the program, and the text of the contract.
"""

import functools
import itertools


def fact_is_true(line, pointers, places):
    """Whether a fact is true of places, by [4]."""
    at = dict(zip(pointers, places))
    words = line.split(" ")
    if words[0] == "apart":
        one = {cell_of(words[1], at) + k for k in range(int(words[2]))}
        two = {cell_of(words[3], at) + k for k in range(int(words[4]))}
        return not one & two
    if words[1] == "by":
        return at[words[0]] % int(words[2]) == int(words[3])
    distance = at[words[2]] - at[words[0]]
    if words[3] == "by":
        return distance % int(words[4]) == int(words[5])
    number = int(words[4])
    return {"from": distance >= number, "upto": distance <= number, "is": distance == number}[words[3]]


def cell_of(spot, at):
    """The cell of a spot."""
    for sign, times in (("+", 1), ("-", -1)):
        if sign in spot:
            name, number = spot.split(sign)
            return at[name] + times * int(number)
    return at[spot]


def keeps(text, pointers, places):
    """Whether places keep the contract of a text."""
    return all(fact_is_true(line, pointers, places) for line in lines_of(text))


class Line(str):
    """A line that knows its number."""


def lines_of(text):
    lines = [Line(line) for line in text.split("\n")] if text else []
    for at, line in enumerate(lines):
        line.number = at + 1
    return lines


def fact_far(line):
    """The far of a fact, by [12]."""
    words = line.split(" ")
    if words[0] == "apart":
        far = int(words[2]) + int(words[4])
        for spot in (words[1], words[3]):
            far += abs(cell_of(spot, {spot.split("+")[0].split("-")[0]: 0}))
        return far
    return 0 if "by" in words else abs(int(words[4]))


def fact_modulus(line):
    """The M of a fact, 1 if it has none."""
    words = line.split(" ")
    return int(words[-2]) if words[-3] == "by" else 1


def tests_of(text):
    """The facts in the lines `when`."""
    return [line[5:] for line in lines_of(text) if line.startswith("when ")]


def tree_of(lines):
    """The lines as lists: [line], [times, block], [when, block, block]."""
    block = []
    while lines and lines[0] not in ("else", "end"):
        line = lines.pop(0)
        if line.split(" ")[0] == "times":
            block.append([line, tree_of(lines)])
            lines.pop(0)
        elif line.split(" ")[0] == "when":
            row = [line, tree_of(lines), []]
            if lines.pop(0) == "else":
                row[2] = tree_of(lines)
                lines.pop(0)
            block.append(row)
        else:
            block.append([line])
    return block


@functools.cache
def tree(text):
    """The lines of a text as such lists."""
    return tree_of(lines_of(text))


class Walker:
    """A run of a text from places.

    `steps` are what `steps` of a program tells, `sources` a dict from the numbers of lines to the
    numbers of the lines that wrote what they read, `called` the number, the function and the
    cells of each call.
    """

    def __init__(self, pointers, text, places, cells=None, functions=None):
        self.pointers = list(pointers)
        self.functions = functions
        self.at = dict(zip(pointers, places))
        self.cells = {} if cells is None else cells
        self.held = {}
        self.given = ()
        self.read = set()
        self.written = set()
        self.lines_done = 0
        self.number = 0
        self.touched = set()
        self.writers = {}
        self.sources = {}
        self.called = []
        self.steps = []
        self.walk(tree(text))

    def walk(self, block):
        for row in block:
            words = row[0].split(" ")
            self.lines_done += 1
            if words[0] == "times":
                for _ in range(int(words[1])):
                    self.walk(row[1])
                    self.lines_done += 1
            elif words[0] == "when":
                now = [self.at[name] for name in self.pointers]
                self.walk(row[1] if fact_is_true(row[0][5:], self.pointers, now) else row[2])
                self.lines_done += 1
            else:
                self.number = row[0].number
                self.touched = set()
                getattr(self, "do_" + words[0])(*words[1:])
                if words[0] not in ("input", "give"):
                    now = tuple(self.at[name] for name in self.pointers)
                    self.steps.append((self.number, now, [(cell, self.cells[cell]) for cell in sorted(self.touched)]))

    def get(self, cell):
        self.read.add(cell)
        self.sources.setdefault(self.number, set()).add(self.writers.get(cell, 0))
        return self.cells.get(cell, "@" + str(cell))

    def put(self, cell, text):
        self.wrote(cell)
        self.cells[cell] = text

    def wrote(self, cell):
        self.written.add(cell)
        self.touched.add(cell)
        self.writers[cell] = self.number

    def do_call(self, name, *spots):
        pointers, text, _ = self.functions[name]
        cells = tuple(cell_of(spot, self.at) for spot in spots)
        self.called.append((self.number, name, cells))
        inner = Walker(pointers, text, cells, self.cells, self.functions)
        self.lines_done += inner.lines_done
        self.read |= inner.read
        for cell in inner.written:
            self.wrote(cell)

    def do_input(self, x, w):
        self.held[x] = [x + "." + str(k) for k in range(int(w))]

    def do_load(self, x, w, spot):
        self.held[x] = [self.get(cell_of(spot, self.at) + k) for k in range(int(w))]

    def do_store(self, x, spot):
        for k, text in enumerate(self.held[x]):
            self.put(cell_of(spot, self.at) + k, text)

    def do_set(self, x, *numbers):
        self.held[x] = ["#" + n for n in numbers]

    def do_join(self, x, y, z):
        self.held[x] = self.held[y] + self.held[z]

    def do_part(self, x, y, a, w):
        self.held[x] = self.held[y][int(a):int(a) + int(w)]

    def do_each(self, f, x):
        self.held[x] = [f + " " + text for text in self.held[x]]

    def do_copy(self, n, _from, one, _to, two):
        texts = [self.get(cell_of(one, self.at) + k) for k in range(int(n))]
        for k, text in enumerate(texts):
            self.put(cell_of(two, self.at) + k, text)

    def do_up(self, n, _from, one, _to, two):
        for k in range(int(n)):
            self.put(cell_of(two, self.at) + k, self.get(cell_of(one, self.at) + k))

    def do_down(self, n, _from, one, _to, two):
        for k in reversed(range(int(n))):
            self.put(cell_of(two, self.at) + k, self.get(cell_of(one, self.at) + k))

    def do_fill(self, n, x, spot):
        for k in range(int(n)):
            self.put(cell_of(spot, self.at) + k, self.held[x][0])

    def do_step(self, p, d):
        self.at[p] += int(d)

    def do_give(self, *registers):
        self.given = tuple(tuple(self.held[x]) for x in registers)

    def changed(self):
        return {cell: text for cell, text in self.cells.items() if text != "@" + str(cell)}


def outcome(pointers, text, places, functions=None):
    """The rows that are given and the changed cells."""
    walker = Walker(pointers, text, places, None, functions)
    return walker.given, walker.changed()


def offsets_on_all_ways(pointers, text, functions=None):
    """All offsets of [12] by following each way: a dict from the pointers to sets."""
    offsets = {name: {0} for name in pointers}

    def spot_at(shifts, spot, many):
        name = spot.split("+")[0].split("-")[0]
        start = cell_of(spot, shifts)
        offsets[name] |= {start, start + many}

    def call_at(shifts, called, spots):
        names, body, _ = functions[called]
        inner = offsets_on_all_ways(names, body, functions)
        for spot, name in zip(spots, names):
            for offset in inner[name]:
                spot_at(shifts, spot, offset)

    def follow(block, shifts, widths):
        """All shifts behind the block, as a list of dicts."""
        ways = [shifts]
        for row in block:
            unique = {tuple(sorted(way.items())) for way in ways}
            ways = [way for key in unique for way in follow_row(row, dict(key), widths)]
        return ways

    def follow_row(row, shifts, widths):
        words = row[0].split(" ")
        if words[0] == "times":
            return follow(row[1] * int(words[1]), shifts, widths)
        if words[0] == "when":
            if words[1] == "apart":
                spot_at(shifts, words[2], int(words[3]))
                spot_at(shifts, words[4], int(words[5]))
            return follow(row[1], shifts, widths) + follow(row[2], shifts, widths)
        if words[0] == "step":
            shifts = dict(shifts)
            shifts[words[1]] += int(words[2])
            offsets[words[1]].add(shifts[words[1]])
        elif words[0] == "load":
            spot_at(shifts, words[3], int(words[2]))
        elif words[0] == "store":
            spot_at(shifts, words[2], widths[words[1]])
        elif words[0] == "fill":
            spot_at(shifts, words[3], int(words[1]))
        elif words[0] in ("copy", "up", "down"):
            spot_at(shifts, words[3], int(words[1]))
            spot_at(shifts, words[5], int(words[1]))
        elif words[0] == "call":
            call_at(shifts, words[1], words[2:])
        return [shifts]

    follow(tree(text), {name: 0 for name in pointers}, widths_of(text))
    return offsets


def widths_of(text):
    """The widths of the registers."""
    widths = {}
    for line in lines_of(text):
        words = line.split(" ")
        if words[0] in ("input", "load"):
            widths[words[1]] = int(words[2])
        elif words[0] == "set":
            widths[words[1]] = len(words) - 2
        elif words[0] == "part":
            widths[words[1]] = int(words[4])
        elif words[0] == "join":
            widths[words[1]] = widths[words[2]] + widths[words[3]]
    return widths


def tests_with_calls(text, functions):
    """The tests of a program, of all functions that it calls, also through others, and their contracts."""
    facts = tests_of(text)
    for line in lines_of(text):
        if line.startswith("call "):
            _, body, needed = functions[line.split(" ")[1]]
            facts += tests_with_calls(body, functions) + lines_of(needed)
    return facts


def all_cases(pointers, programs, contracts, wider=0, functions=None):
    """The places of [12] for texts of programs and contracts, in the order of [6].

    With `wider` also places with gaps that are wider by so much.
    """
    reach, facts = [], [line for text in contracts for line in lines_of(text)]
    for text in programs:
        offsets = offsets_on_all_ways(pointers, text, functions)
        reach += [offset for name in offsets for offset in offsets[name]]
        facts += tests_with_calls(text, functions)
    return sized_cases(len(pointers), reach, facts, wider)


def sized_cases(many, reach, facts, wider=0):
    """The places of [12] for all offsets and facts of a question."""
    far = max([fact_far(line) for line in facts], default=0)
    modulus = max([fact_modulus(line) for line in facts], default=1)
    gap = 1 + max(reach, default=0) - min(reach, default=0) + far + modulus - 1
    return cases(many, gap + wider, modulus)


@functools.cache
def cases(many, gap, modulus):
    """All places whose least one is from 0 to modulus - 1, with gaps of at most `gap`."""
    rows = set()
    for least in range(modulus):
        for gaps in itertools.product(range(gap + 1), repeat=many - 1):
            ascending = [least + sum(gaps[:k]) for k in range(many)]
            rows |= set(itertools.permutations(ascending))
    return sorted(rows, key=lambda row: (max(row) - min(row), min(row), row))


def first_parting(pointers, one, two, under="", wider=0, functions=None):
    """The nearest places that keep a contract and from which the outcomes are not equal, or None."""
    for places in all_cases(pointers, [one, two], [under], wider, functions):
        if keeps(under, pointers, places):
            if outcome(pointers, one, places, functions) != outcome(pointers, two, places, functions):
                return places
    return None
