"""Runs of programs from some places.

What a cell holds is kept as a text, but what cell C held at the beginning as the number C: so
cells that are only moved need no texts, and two contents are equal if what is kept is equal.
"""

from partlymet.bodies import blocks_at


class Run:
    """A run on its way.

    `cells` has the cells that were written, `held` the registers, `given` those that are told. A
    `watched` run keeps in `log` for each deed: its line, the places of the pointers behind it, the
    cells that it read, and pairs of the cells that it wrote and what they hold then.
    """

    def __init__(self, places, cells, watched):
        self.origin = tuple(places)
        self.places = list(places)
        self.cells = cells
        self.held = {}
        self.given = ()
        self.watched = watched
        self.log = []

    def begin(self):
        """Sets the pointers to the first places again, without registers."""
        self.places = list(self.origin)
        self.held = {}

    def row(self, span):
        """The cells of a row."""
        pointer, shift, many = span
        start = self.places[pointer] + shift
        return list(range(start, start + many))

    def taken(self, span):
        """What the cells of a row hold."""
        cells = self.cells
        return [cells.get(cell, cell) for cell in self.row(span)]

    def put(self, span, contents):
        """Writes to the cells of a row."""
        cells = self.cells
        for cell, content in zip(self.row(span), contents):
            cells[cell] = content

    def note(self, line, read, written):
        """Keeps what a deed has done, with what the written cells hold now."""
        cells = self.cells
        self.log.append((line, tuple(self.places), read, [(cell, cells[cell]) for cell in written]))


def text_of(content):
    """The text of what a cell holds."""
    return f"@{content}" if isinstance(content, int) else content


def spot_cells(places, spots):
    """The cells of spots, if the pointers point at these places."""
    return [places[pointer] + shift for pointer, shift in spots]


def do_load(run, line):
    run.held[line.told[0]] = run.taken(line.source)


def do_store(run, line):
    run.put(line.target, run.held[line.told[0]])


def do_set(run, line):
    run.held[line.told[0]] = [f"#{number}" for number in line.told[1:]]


def do_join(run, line):
    name, first, second = line.told
    run.held[name] = run.held[first] + run.held[second]


def do_part(run, line):
    name, whole, start, many = line.told
    run.held[name] = run.held[whole][start:start + many]


def do_each(run, line):
    operation, name = line.told
    run.held[name] = [f"{operation} {text_of(content)}" for content in run.held[name]]


def do_copy(run, line):
    run.put(line.target, run.taken(line.source))


def do_up(run, line):
    move_each(run.cells, run.row(line.source), run.row(line.target))


def do_down(run, line):
    move_each(run.cells, run.row(line.source)[::-1], run.row(line.target)[::-1])


def move_each(cells, sources, targets):
    """Reads and writes one cell after another."""
    for source, target in zip(sources, targets):
        cells[target] = cells.get(source, source)


def do_fill(run, line):
    many, name, _ = line.told
    run.put(line.target, run.held[name] * many)


def do_step(run, line):
    pointer, shift = line.told
    run.places[pointer] = run.places[pointer] + shift


DEEDS = {
    "load": do_load,
    "store": do_store,
    "set": do_set,
    "join": do_join,
    "part": do_part,
    "each": do_each,
    "copy": do_copy,
    "up": do_up,
    "down": do_down,
    "fill": do_fill,
    "step": do_step,
}


def do_line(run, line):
    """Does a deed that is no call."""
    deed = DEEDS[line.word]
    deed(run, line)
    if run.watched:
        read = [] if line.source is None else run.row(line.source)
        written = [] if line.target is None else run.row(line.target)
        run.note(line, read, written)


def do_call(run, line):
    """Does the program of a function on the same memory."""
    _, function, spots = line.told
    inner = Run(spot_cells(run.places, spots), run.cells, run.watched)
    do_parts(inner, function.program.body.parts)
    if run.watched:
        read = sorted({cell for _, _, cells, _ in inner.log for cell in cells})
        written = sorted({cell for _, _, _, pairs in inner.log for cell, _ in pairs})
        run.note(line, read, written)


def do_block(run, block):
    """Does the lines of a block."""
    for line in block:
        if line.word == "times":
            for _ in range(line.told[0]):
                do_block(run, line.inner)
        elif line.word == "when":
            do_block(run, line.inner if line.told[0].holds(run.places) else line.other)
        elif line.word == "input":
            name, width = line.told
            run.held[name] = [f"{name}.{index}" for index in range(width)]
        elif line.word == "give":
            run.given = tuple([tuple(run.held[name]) for name in line.told])
        elif line.word == "call":
            do_call(run, line)
        else:
            do_line(run, line)


def do_parts(run, parts):
    """Does the parts of a body."""
    for block in blocks_at(parts, run.origin):
        run.begin()
        do_block(run, block)


def whole_run(body, places, watched):
    """The run of a body from some places."""
    run = Run(places, {}, watched)
    do_parts(run, body.parts)
    return run


def ending(body, places):
    """What a run gives and what the changed cells hold, both as they are kept."""
    run = whole_run(body, places, False)
    return run.given, {cell: content for cell, content in run.cells.items() if content != cell}
