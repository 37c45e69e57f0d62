"""Changes of the lines of programs that were read. Lines are told by their numbers."""

from partlymet.blocks import COPYING
from partlymet.errors import NoLine
from partlymet.programs import read_program
from partlymet.texts import first_word, lines_of

WRITES = ("store", "copy", "up", "down", "fill", "call")
DEEDS = ("load", "store", "set", "join", "part", "each", "copy", "up", "down", "fill", "step", "call")
READS = ("load", "copy", "up", "down")


def word_at(program, line):
    """The first word of a line, or None if there is no such line."""
    lines = lines_of(program.text)
    return first_word(lines[line - 1]) if 1 <= line <= len(lines) else None


def check_word(program, line, words):
    """Nothing, if the first word of a line is one of these."""
    if word_at(program, line) not in words:
        raise NoLine(line)


def check_write(program, line):
    """Nothing, if a line is a write line."""
    check_word(program, line, WRITES)


def check_read(program, line):
    """Nothing, if a line is one that has sources."""
    check_word(program, line, READS)


def check_copying(program, line):
    """Nothing, if a line is `copy`, `up` or `down`."""
    check_word(program, line, COPYING)


def check_pair(program, line):
    """Nothing, if a line and the one behind it are deeds."""
    if word_at(program, line) not in DEEDS or word_at(program, line + 1) not in DEEDS:
        raise NoLine(line)


def write_lines(program):
    """The numbers of the write lines."""
    return [index + 1 for index, line in enumerate(lines_of(program.text)) if first_word(line) in WRITES]


def reread(program, lines):
    """The program of other lines, which call no other functions."""
    return read_program(program.pointers, "\n".join(lines), program.body.calls)


def without_line(program, line):
    """The program without a line."""
    lines = lines_of(program.text)
    return reread(program, lines[:line - 1] + lines[line:])


def with_swapped(program, line):
    """The program with a line and the one behind it exchanged; raises BadProgram if it cannot be read."""
    lines = lines_of(program.text)
    return reread(program, lines[:line - 1] + [lines[line], lines[line - 1]] + lines[line + 1:])


def with_word(program, line, word):
    """The program with another first word of a line."""
    lines = lines_of(program.text)
    _, space, rest = lines[line - 1].partition(" ")
    return reread(program, lines[:line - 1] + [word + space + rest] + lines[line:])
