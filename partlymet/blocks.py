"""The blocks of a program: its lines with the lines inside them."""

from partlymet.layout import OPENING

COPYING = ("copy", "up", "down")


class Line:
    """A line of a program.

    `told` is what the words behind the first one tell. `source` and `target` are the rows of cells
    that the line reads and writes, each a pointer, a shift and a length, or None. `inner` and
    `other` are the blocks ahead of `else` and behind it.
    """

    def __init__(self, number, word, told, source, target, inner, other):
        self.number = number
        self.word = word
        self.told = told
        self.source = source
        self.target = target
        self.inner = inner
        self.other = other


def block_of(rows, widths, index):
    """The block that begins at this index of the rows, and the index behind its last line."""
    block = []
    while index < len(rows) and rows[index][0] not in ("else", "end"):
        word, told = rows[index]
        inner, other, behind = (), (), index
        if word in OPENING:
            inner, behind = block_of(rows, widths, index + 1)
            if rows[behind][0] == "else":
                other, behind = block_of(rows, widths, behind + 1)
        source, target = source_of(word, told), target_of(word, told, widths)
        block.append(Line(index + 1, word, told, source, target, inner, other))
        index = behind + 1
    return tuple(block), index


def source_of(word, told):
    """The row of cells that a line reads, or None."""
    if word == "load":
        return told[2] + (told[1],)
    return told[1] + (told[0],) if word in COPYING else None


def target_of(word, told, widths):
    """The row of cells that a line writes, or None."""
    if word == "store":
        return told[1] + (widths[told[0]],)
    return told[2] + (told[0],) if word in COPYING or word == "fill" else None
