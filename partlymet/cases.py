"""The places that are enough to find out whether something is so for all places.

`width` is the greatest offset of the programs in question minus the least one, `far` and
`modulus` are the greatest ones of the programs and contracts. Behind a gap of `1 + width + far`
nothing meets and no test changes any more, so a gap that is wider by the modulus shows the same.
"""


def near_places(count, width, far, modulus):
    """All places for `count` pointers that are enough, the nearest ones first."""
    gap = width + far + modulus
    for spread in range((count - 1) * gap + 1):
        rows = shapes(count, spread, gap)
        for least in range(modulus):
            for row in rows:
                yield tuple([least + shift for shift in row])


def shapes(count, spread, gap):
    """The places with the least one 0, this spread, and no gap above `gap`, the smallest ones first."""
    if count == 1:
        return [(0,)]
    if count == 2:
        return [(0, spread), (spread, 0)] if spread else [(0, 0)]
    middles = range(max(0, spread - gap), min(gap, spread) + 1)
    return sorted({turn for middle in middles for turn in turns(middle, spread)})


def turns(middle, spread):
    """All orders of the places 0, `middle` and `spread`."""
    return [
        (0, middle, spread), (0, spread, middle), (middle, 0, spread),
        (middle, spread, 0), (spread, 0, middle), (spread, middle, 0),
    ]


def folded(distance, width, far, modulus):
    """The nearest distance to the same side that shows the same as this one."""
    clear = 1 + width + far
    length = abs(distance)
    if length > clear:
        length = clear + (length - clear) % modulus
    return length if distance > 0 else -length
