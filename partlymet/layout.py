"""Where the lines of a program may stand, and which registers are set at each of them.

A line is read as a pair: its first word, and a tuple of what its other words tell. What is wrong
with a line depends on no later line. So the right lines from the top are found for one rule after
another, each among those that the rules ahead of it leave.
"""

from partlymet.errors import BadProgram
from partlymet.forms import read_line
from partlymet.texts import lines_of

MOST_LINES = 40
MOST_OPEN = 5
WIDEST = 16
OPENING = ("when", "times")
SETTING = ("input", "load", "set", "join", "part")
# Which of the told words are registers that the line uses: from the first index to ahead of the other.
USED = {"store": (0, 1), "each": (1, 2), "fill": (1, 2), "give": (0, 4), "join": (1, 3), "part": (1, 2)}


def read_rows(pointers, text, functions):
    """The lines of a program as they are read, and a dict of the widths of its registers."""
    lines = lines_of(text)
    placed, around = placed_rows(formed_rows(lines, pointers, functions))
    used, widths = used_rows(placed)
    if used < len(lines):
        raise BadProgram(used + 1)
    if around:
        raise BadProgram(len(lines) + 1)
    return placed, widths


def formed_rows(lines, pointers, functions):
    """The lines from the top that have a right form."""
    rows = []
    for line in lines[:MOST_LINES]:
        row = read_line(line, pointers, functions)
        if row is None:
            return rows
        rows.append(row)
    return rows


def placed_rows(rows):
    """The lines from the top that stand where they can stand, and what is open behind them."""
    around = []
    before = "input"
    for index, (word, _) in enumerate(rows):
        if not may_stand(word, before, around):
            return rows[:index], around
        if word in OPENING:
            around.append(word)
        elif word == "else":
            around[-1] = word
        elif word == "end":
            around.pop()
        before = word
    return rows, around


def may_stand(word, before, around):
    """Whether a line can stand behind a line that begins with `before`, in the open blocks `around`."""
    if before == "give":
        return False
    if word == "input":
        return before == "input"
    if word == "give":
        return not around
    if word == "else":
        return around[-1:] == ["when"]
    if word == "end":
        return len(around) > 0
    return word not in OPENING or len(around) < MOST_OPEN


def used_rows(rows):
    """How many lines from the top use and set registers rightly, and a dict of the widths that they fix."""
    widths = {}
    known = {}
    # For each open block: its word, what was set ahead of it, and behind its first side. Without
    # `else` the other side sets nothing, so the two are the same until an `else` comes.
    around = []
    for index, (word, told) in enumerate(rows):
        if word in OPENING:
            around.append((word, known, known))
        elif word == "else":
            _, before, _ = around.pop()
            around.append((word, before, known))
            known = before
        elif word == "end":
            opener, _, half = around.pop()
            known = known if opener == "times" else {name: True for name in known if name in half}
        elif misuses(word, told, widths, known):
            return index, widths
        elif word in SETTING:
            widths[told[0]] = width_of(word, told, widths)
            known = {**known, told[0]: True}
    return len(rows), widths


def misuses(word, told, widths, known):
    """Whether a line uses a register that is not set or too narrow or wide, or changes the width of one."""
    first, behind = USED.get(word, (0, 0))
    if not all([name in known for name in told[first:behind]]):
        return True
    if word == "fill" and widths[told[1]] != 1:
        return True
    if word == "part" and told[2] + told[3] > widths[told[1]]:
        return True
    if word not in SETTING:
        return False
    width = width_of(word, told, widths)
    if width > WIDEST or word == "input" and told[0] in widths:
        return True
    return widths.get(told[0], width) != width


def width_of(word, told, widths):
    """The width of the register that a line sets."""
    if word == "set":
        return len(told) - 1
    if word == "join":
        return widths[told[1]] + widths[told[2]]
    return told[3] if word == "part" else told[1]
