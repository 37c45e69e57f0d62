"""Runs of programs from some places.

What a cell holds is kept as a text, but what cell C held at the beginning as the number C: so
cells that are only moved need no texts, and two contents are equal if what is kept is equal.
"""


class Run:
    """A run on its way.

    `cells` has the cells that were written, `held` the registers, `given` those that are told. A
    `watched` run keeps in `log` for each deed: its line, the places of the pointers behind it, the
    cells that it read, and pairs of the cells that it wrote and what they hold then.
    """

    def __init__(self, places, watched):
        self.first = tuple(places)
        self.places = list(places)
        self.cells = {}
        self.held = {}
        self.given = ()
        self.watched = watched
        self.log = []

    def begin(self):
        """Sets the pointers to the first places again, without registers."""
        self.places = list(self.first)
        self.held = {}

    def row(self, span):
        """The cells of a row."""
        pointer, shift, many = span
        start = self.places[pointer] + shift
        return list(range(start, start + many))

    def taken(self, span):
        """What the cells of a row hold."""
        cells = self.cells
        return [cells.get(cell, cell) for cell in self.row(span)]

    def put(self, span, contents):
        """Writes to the cells of a row."""
        cells = self.cells
        for cell, content in zip(self.row(span), contents):
            cells[cell] = content

    def note(self, line):
        """Keeps what a deed has done."""
        read = [] if line.source is None else self.row(line.source)
        written = [] if line.target is None else self.row(line.target)
        texts = [(cell, text_of(self.cells[cell])) for cell in written]
        self.log.append((line.number, tuple(self.places), read, texts))


def text_of(content):
    """The text of what a cell holds."""
    return f"@{content}" if isinstance(content, int) else content


def do_load(run, line):
    run.held[line.told[0]] = run.taken(line.source)


def do_store(run, line):
    run.put(line.target, run.held[line.told[0]])


def do_set(run, line):
    run.held[line.told[0]] = [f"#{number}" for number in line.told[1:]]


def do_join(run, line):
    name, first, second = line.told
    run.held[name] = run.held[first] + run.held[second]


def do_part(run, line):
    name, whole, start, many = line.told
    run.held[name] = run.held[whole][start:start + many]


def do_each(run, line):
    operation, name = line.told
    run.held[name] = [f"{operation} {text_of(content)}" for content in run.held[name]]


def do_copy(run, line):
    run.put(line.target, run.taken(line.source))


def do_up(run, line):
    move_each(run.cells, run.row(line.source), run.row(line.target))


def do_down(run, line):
    move_each(run.cells, run.row(line.source)[::-1], run.row(line.target)[::-1])


def move_each(cells, sources, targets):
    """Reads and writes one cell after another."""
    for source, target in zip(sources, targets):
        cells[target] = cells.get(source, source)


def do_fill(run, line):
    many, name, _ = line.told
    run.put(line.target, run.held[name] * many)


def do_step(run, line):
    pointer, shift = line.told
    run.places[pointer] = run.places[pointer] + shift


DEEDS = {
    "load": do_load,
    "store": do_store,
    "set": do_set,
    "join": do_join,
    "part": do_part,
    "each": do_each,
    "copy": do_copy,
    "up": do_up,
    "down": do_down,
    "fill": do_fill,
    "step": do_step,
}


def do_block(run, block):
    """Does the lines of a block."""
    for line in block:
        if line.word == "times":
            for _ in range(line.told[0]):
                do_block(run, line.inner)
        elif line.word == "when":
            do_block(run, line.inner if line.told[0].holds(run.places) else line.other)
        elif line.word == "input":
            name, width = line.told
            run.held[name] = [f"{name}.{index}" for index in range(width)]
        elif line.word == "give":
            run.given = tuple([tuple(run.held[name]) for name in line.told])
        else:
            deed = DEEDS[line.word]
            deed(run, line)
            if run.watched:
                run.note(line)


def whole_run(parts, places, watched):
    """The run of the blocks of a program, one after another, from some places."""
    run = Run(places, watched)
    for block in parts:
        run.begin()
        do_block(run, block)
    return run


def ending(parts, places):
    """What a run gives and what the changed cells hold, both as they are kept."""
    run = whole_run(parts, places, False)
    return run.given, {cell: content for cell, content in run.cells.items() if content != cell}
