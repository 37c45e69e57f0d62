"""A plain second reading of the document, to test the package against.

It follows the words of the points one by one, on the texts themselves, and takes its time. It
reads only texts that are right.
"""

import itertools


def fact_is_true(line, pointers, places):
    """Whether a fact is true of places, by [4]."""
    at = dict(zip(pointers, places))
    words = line.split(" ")
    if words[0] == "apart":
        one = {cell_of(words[1], at) + k for k in range(int(words[2]))}
        two = {cell_of(words[3], at) + k for k in range(int(words[4]))}
        return not one & two
    if words[1] == "by":
        return at[words[0]] % int(words[2]) == int(words[3])
    distance = at[words[2]] - at[words[0]]
    if words[3] == "by":
        return distance % int(words[4]) == int(words[5])
    number = int(words[4])
    return {"from": distance >= number, "upto": distance <= number, "is": distance == number}[words[3]]


def cell_of(spot, at):
    """The cell of a spot."""
    for sign, times in (("+", 1), ("-", -1)):
        if sign in spot:
            name, number = spot.split(sign)
            return at[name] + times * int(number)
    return at[spot]


def keeps(text, pointers, places):
    """Whether places keep the contract of a text."""
    return all(fact_is_true(line, pointers, places) for line in lines_of(text))


def lines_of(text):
    return text.split("\n") if text else []


def fact_far(line):
    """The far of a fact, by [12]."""
    words = line.split(" ")
    if words[0] == "apart":
        far = int(words[2]) + int(words[4])
        for spot in (words[1], words[3]):
            far += abs(cell_of(spot, {spot.split("+")[0].split("-")[0]: 0}))
        return far
    return 0 if "by" in words else abs(int(words[4]))


def fact_modulus(line):
    """The M of a fact, 1 if it has none."""
    words = line.split(" ")
    return int(words[-2]) if words[-3] == "by" else 1


def tests_of(text):
    """The facts in the lines `when`."""
    return [line[5:] for line in lines_of(text) if line.startswith("when ")]


def tree_of(lines):
    """The lines as lists: [line], [times, block], [when, block, block]."""
    block = []
    while lines and lines[0] not in ("else", "end"):
        line = lines.pop(0)
        if line.split(" ")[0] == "times":
            block.append([line, tree_of(lines)])
            lines.pop(0)
        elif line.split(" ")[0] == "when":
            row = [line, tree_of(lines), []]
            if lines.pop(0) == "else":
                row[2] = tree_of(lines)
                lines.pop(0)
            block.append(row)
        else:
            block.append([line])
    return block


class Walker:
    """A run of a text from places."""

    def __init__(self, pointers, text, places, cells=None):
        self.pointers = list(pointers)
        self.at = dict(zip(pointers, places))
        self.cells = {} if cells is None else cells
        self.held = {}
        self.given = ()
        self.read = set()
        self.written = set()
        self.lines_done = 0
        self.walk(tree_of(lines_of(text)))

    def walk(self, block):
        for row in block:
            words = row[0].split(" ")
            self.lines_done += 1
            if words[0] == "times":
                for _ in range(int(words[1])):
                    self.walk(row[1])
                    self.lines_done += 1
            elif words[0] == "when":
                now = [self.at[name] for name in self.pointers]
                self.walk(row[1] if fact_is_true(row[0][5:], self.pointers, now) else row[2])
                self.lines_done += 1
            else:
                getattr(self, "do_" + words[0])(*words[1:])

    def get(self, cell):
        self.read.add(cell)
        return self.cells.get(cell, "@" + str(cell))

    def put(self, cell, text):
        self.written.add(cell)
        self.cells[cell] = text

    def do_input(self, x, w):
        self.held[x] = [x + "." + str(k) for k in range(int(w))]

    def do_load(self, x, w, spot):
        self.held[x] = [self.get(cell_of(spot, self.at) + k) for k in range(int(w))]

    def do_store(self, x, spot):
        for k, text in enumerate(self.held[x]):
            self.put(cell_of(spot, self.at) + k, text)

    def do_set(self, x, *numbers):
        self.held[x] = ["#" + n for n in numbers]

    def do_join(self, x, y, z):
        self.held[x] = self.held[y] + self.held[z]

    def do_part(self, x, y, a, w):
        self.held[x] = self.held[y][int(a):int(a) + int(w)]

    def do_each(self, f, x):
        self.held[x] = [f + " " + text for text in self.held[x]]

    def do_copy(self, n, _from, one, _to, two):
        texts = [self.get(cell_of(one, self.at) + k) for k in range(int(n))]
        for k, text in enumerate(texts):
            self.put(cell_of(two, self.at) + k, text)

    def do_up(self, n, _from, one, _to, two):
        for k in range(int(n)):
            self.put(cell_of(two, self.at) + k, self.get(cell_of(one, self.at) + k))

    def do_down(self, n, _from, one, _to, two):
        for k in reversed(range(int(n))):
            self.put(cell_of(two, self.at) + k, self.get(cell_of(one, self.at) + k))

    def do_fill(self, n, x, spot):
        for k in range(int(n)):
            self.put(cell_of(spot, self.at) + k, self.held[x][0])

    def do_step(self, p, d):
        self.at[p] += int(d)

    def do_give(self, *registers):
        self.given = tuple(tuple(self.held[x]) for x in registers)

    def changed(self):
        return {cell: text for cell, text in self.cells.items() if text != "@" + str(cell)}


def outcome(pointers, text, places):
    """The rows that are given and the changed cells."""
    walker = Walker(pointers, text, places)
    return walker.given, walker.changed()


def offsets_on_all_ways(pointers, text):
    """All offsets of [12] by following each way: a dict from the pointers to sets."""
    offsets = {name: {0} for name in pointers}

    def spot_at(shifts, spot, many):
        name = spot.split("+")[0].split("-")[0]
        start = cell_of(spot, shifts)
        offsets[name] |= {start, start + many}

    def follow(block, shifts, widths):
        """All shifts behind the block, as a list of dicts."""
        ways = [shifts]
        for row in block:
            unique = {tuple(sorted(way.items())) for way in ways}
            ways = [way for key in unique for way in follow_row(row, dict(key), widths)]
        return ways

    def follow_row(row, shifts, widths):
        words = row[0].split(" ")
        if words[0] == "times":
            return follow(row[1] * int(words[1]), shifts, widths)
        if words[0] == "when":
            if words[1] == "apart":
                spot_at(shifts, words[2], int(words[3]))
                spot_at(shifts, words[4], int(words[5]))
            return follow(row[1], shifts, widths) + follow(row[2], shifts, widths)
        if words[0] == "step":
            shifts = dict(shifts)
            shifts[words[1]] += int(words[2])
            offsets[words[1]].add(shifts[words[1]])
        elif words[0] == "load":
            spot_at(shifts, words[3], int(words[2]))
        elif words[0] == "store":
            spot_at(shifts, words[2], widths[words[1]])
        elif words[0] == "fill":
            spot_at(shifts, words[3], int(words[1]))
        elif words[0] in ("copy", "up", "down"):
            spot_at(shifts, words[3], int(words[1]))
            spot_at(shifts, words[5], int(words[1]))
        return [shifts]

    follow(tree_of(lines_of(text)), {name: 0 for name in pointers}, widths_of(text))
    return offsets


def widths_of(text):
    """The widths of the registers."""
    widths = {}
    for line in lines_of(text):
        words = line.split(" ")
        if words[0] in ("input", "load"):
            widths[words[1]] = int(words[2])
        elif words[0] == "set":
            widths[words[1]] = len(words) - 2
        elif words[0] == "part":
            widths[words[1]] = int(words[4])
        elif words[0] == "join":
            widths[words[1]] = widths[words[2]] + widths[words[3]]
    return widths


def all_cases(pointers, programs, contracts, wider=0):
    """The places of [12] for texts of programs and contracts, in the order of [6].

    With `wider` also places with gaps that are wider by so much.
    """
    reach = [offset for text in programs for row in offsets_on_all_ways(pointers, text).values() for offset in row]
    facts = [line for text in contracts for line in lines_of(text)]
    facts += [line for text in programs for line in tests_of(text)]
    far = max([fact_far(line) for line in facts], default=0)
    modulus = max([fact_modulus(line) for line in facts], default=1)
    gap = 1 + max(reach, default=0) - min(reach, default=0) + far + modulus - 1
    return cases(len(pointers), gap + wider, modulus)


def cases(many, gap, modulus):
    """All places whose least one is from 0 to modulus - 1, with gaps of at most `gap`."""
    rows = set()
    for least in range(modulus):
        for gaps in itertools.product(range(gap + 1), repeat=many - 1):
            ascending = [least + sum(gaps[:k]) for k in range(many)]
            rows |= set(itertools.permutations(ascending))
    return sorted(rows, key=lambda row: (max(row) - min(row), min(row), row))


def first_parting(pointers, one, two, under="", wider=0):
    """The nearest places that keep a contract and from which the outcomes are not equal, or None."""
    for places in all_cases(pointers, [one, two], [under], wider):
        if keeps(under, pointers, places) and outcome(pointers, one, places) != outcome(pointers, two, places):
            return places
    return None
