"""How far the pointers of a program go, and which cells beside them it touches.

What a block does with one pointer is told by four numbers: the least and the greatest shift that
it adds on any way, and the least and the greatest offset on any way, seen from where the pointer
stands ahead of the block. They are enough to put blocks together without following each way.
"""


def offsets_of(block, many):
    """For each of `many` pointers the least and the greatest offset that it has in a block."""
    return tuple([block_moves(block, pointer)[2:] for pointer in range(many)])


def reach_of(offsets):
    """The least and the greatest offset of all pointers."""
    return (min([least for least, _ in offsets]), max([most for _, most in offsets]))


def block_moves(block, pointer):
    """What a block does with a pointer."""
    moves = (0, 0, 0, 0)
    for line in block:
        moves = both_moves(moves, line_moves(line, pointer))
    return moves


def line_moves(line, pointer):
    """What a line, with the lines inside it, does with a pointer."""
    if line.word == "step":
        shift = line.told[1] if line.told[0] == pointer else 0
        return (shift, shift, min(0, shift), max(0, shift))
    if line.word == "times":
        return repeated_moves(block_moves(line.inner, pointer), line.told[0])
    if line.word == "when":
        tested = spans_moves(line.told[0].spans, pointer)
        either = either_moves(block_moves(line.inner, pointer), block_moves(line.other, pointer))
        return both_moves(tested, either)
    if line.word == "call":
        return call_moves(line, pointer)
    return spans_moves([span for span in (line.source, line.target) if span is not None], pointer)


def both_moves(one, two):
    """What is done with a pointer by one thing and then by another one."""
    return (
        one[0] + two[0], one[1] + two[1],
        min(one[2], one[0] + two[2]), max(one[3], one[1] + two[3]),
    )


def either_moves(one, two):
    """What is done with a pointer by one of two things, if it is open which one is done."""
    return (min(one[0], two[0]), max(one[1], two[1]), min(one[2], two[2]), max(one[3], two[3]))


def repeated_moves(moves, laps):
    """What is done with a pointer by a thing that is done some times."""
    least, most, low, high = moves
    # The first or the last lap goes farthest, as each adds the same.
    return (laps * least, laps * most, low + min(0, (laps - 1) * least), high + max(0, (laps - 1) * most))


def spans_moves(spans, pointer):
    """What the rows of cells that a line speaks of mean for a pointer, which they do not move."""
    ends = [0]
    for place, shift, many in spans:
        if place == pointer:
            ends.append(shift)
            ends.append(shift + many)
    return (0, 0, min(ends), max(ends))


def call_moves(line, pointer):
    """What a call means for a pointer of the caller, which it does not move."""
    _, function, spots = line.told
    ends = [0]
    for (place, shift), (least, most) in zip(spots, function.program.body.offsets):
        if place == pointer:
            ends.append(shift + least)
            ends.append(shift + most)
    return (0, 0, min(ends), max(ends))
