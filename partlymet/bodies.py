"""What programs do, whatever their pointers are called: what is read of a text, or put together."""

from partlymet.blocks import block_of
from partlymet.facts import all_hold, far_of, modulus_of
from partlymet.layout import read_rows
from partlymet.offsets import offsets_of, reach_of


class Body:
    """What a program does.

    Its `parts` are done one after another, each from the first places and without registers: a
    part is a block of lines or a guard. `offsets` are the least and the greatest one of each
    pointer. `measured` is all that counts for far and modulus. `calls` is a dict from the names
    of the functions that lines call to these functions.
    """

    def __init__(self, parts, offsets, measured, calls, has_registers):
        self.parts = parts
        self.offsets = offsets
        self.reach = reach_of(offsets)
        self.far = far_of(measured)
        self.modulus = modulus_of(measured)
        self.calls = calls
        self.has_registers = has_registers


class Guard:
    """A part that does other parts: `inside` if all facts are true of the first places, else `outside`."""

    def __init__(self, tests, inside, outside):
        self.tests = tests
        self.inside = inside
        self.outside = outside

    def parts_at(self, places):
        """The parts that are done from these first places."""
        return self.inside if all_hold(self.tests, places) else self.outside


def read_body(pointers, text, functions):
    """What the program of a text does, which may call these functions."""
    rows, widths = read_rows(pointers, text, functions)
    block, _ = block_of(rows, widths, 0)
    calls = {told[0]: told[1] for word, told in rows if word == "call"}
    measured = [told[0] for word, told in rows if word == "when"]
    for name in calls:
        function = calls[name]
        measured.append(function.program)
        measured.append(function.needed)
    has_registers = any([word in ("input", "give") for word, _ in rows])
    # A program that does nothing has no parts: put together many times, it stays as small.
    parts = (block,) if block else ()
    return Body(parts, offsets_of(block, len(pointers)), measured, calls, has_registers)


def joined_body(bodies):
    """What is done by some bodies without registers one after another."""
    parts = [part for body in bodies for part in body.parts]
    return Body(tuple(parts), joined_offsets(bodies), bodies, {}, False)


def guarded_body(body, other, chosen, options):
    """What does the other body if the first places keep the chosen facts, and the first body otherwise."""
    guard = Guard(chosen, other.parts, body.parts)
    return Body((guard,), joined_offsets([body, other]), [body, other, options], {}, False)


def joined_offsets(bodies):
    """For each pointer the least and the greatest offset that it has in any of the bodies."""
    many = len(bodies[0].offsets)
    return tuple([reach_of([body.offsets[index] for body in bodies]) for index in range(many)])


def blocks_at(parts, places):
    """The blocks of the parts that are done from some first places."""
    blocks = []
    # Guards may stand in guards, as deep as callers put them together: so no function calls itself here.
    left = list(parts)[::-1]
    while left:
        part = left.pop()
        if isinstance(part, Guard):
            left.extend(part.parts_at(places)[::-1])
        else:
            blocks.append(part)
    return blocks
