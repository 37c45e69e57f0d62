"""Questions about the lines of a program: which can be left out, exchanged or done in another way."""

from partlymet.blocks import COPYING
from partlymet.cases import near_places
from partlymet.compare import agreed, alike, measures
from partlymet.edits import check_copying, check_pair, check_read, with_swapped, with_word, without_line, write_lines
from partlymet.errors import BadProgram
from partlymet.running import ending, whole_run


def idle_lines(program, *, under=None):
    """The write lines without each of which the program is alike to what it is."""
    facts = agreed([program], under)
    endings = kept_endings(program, facts)
    return [line for line in write_lines(program) if has_endings(without_line(program, line), endings)]


def thinned(program, *, under=None):
    """The write lines that are left out from the last one on as long as they are idle, and what is left."""
    facts = agreed([program], under)
    endings = kept_endings(program, facts)
    left = program
    gone = []
    # From the last line on, as then the lines that are still to come keep their numbers.
    for line in sorted(write_lines(program), reverse=True):
        shorter = without_line(left, line)
        if has_endings(shorter, endings):
            left = shorter
            gone.append(line)
    return sorted(gone), left


def sources(program, line, *, under=None):
    """The lines that have last written what a line reads, 0 for what no line has written."""
    facts = agreed([program], under)
    check_read(program, line)
    found = {}
    width, far, modulus = measures([program], [facts])
    for places in near_places(len(program.pointers), width, far, modulus):
        if facts.keeps(places):
            for writer in run_sources(program, line, places):
                found[writer] = True
    return sorted(found)


def may_swap(program, line, *, under=None):
    """Whether a line and the one behind it may be exchanged."""
    agreed([program], under)
    check_pair(program, line)
    try:
        swapped = with_swapped(program, line)
    except BadProgram:
        return False
    return alike(program, swapped, under=under)


def copy_ways(program, line, *, under=None):
    """The words `copy`, `down` and `up` that may stand as the first one of a line."""
    agreed([program], under)
    check_copying(program, line)
    return [word for word in sorted(COPYING) if alike(program, with_word(program, line, word), under=under)]


def kept_endings(program, facts):
    """A list of all places that are enough and keep the facts, each with what the run from there ends with."""
    width, far, modulus = measures([program], [facts])
    endings = []
    for places in near_places(len(program.pointers), width, far, modulus):
        if facts.keeps(places):
            endings.append((places, ending(program.body, places)))
    return endings


def has_endings(program, endings):
    """Whether the runs of a program end so."""
    for places, expected in endings:
        if ending(program.body, places) != expected:
            return False
    return True


def run_sources(program, number, places):
    """The sources of a line in the run from some places, as a list in which one may stand several times."""
    writers = {}
    found = []
    for line, _, read, written in whole_run(program.body, places, True).log:
        cells = [cell for cell, _ in written]
        if line.number == number and line.word in ("up", "down"):
            found.extend(moved_sources(line, read, cells, writers))
        elif line.number == number:
            found.extend([writers.get(cell, 0) for cell in read])
        for cell in cells:
            writers[cell] = line.number
    return found


def moved_sources(line, read, cells, writers):
    """The sources of a line `up` or `down`, which reads some cells behind its own writing."""
    step = 1 if line.word == "up" else -1
    known = dict(writers)
    found = []
    for source, target in list(zip(read, cells))[::step]:
        found.append(known.get(source, 0))
        known[target] = line.number
    return found
