"""A plain second reading of points [14] to [19]: questions about lines, options and functions.

As in `plain`, all is asked of texts. Functions are a dict from names to triples: the pointers, the
text of the program, and the text of the contract.
"""

import itertools

from plain import (
    Walker, all_cases, fact_is_true, first_parting, keeps, lines_of, offsets_on_all_ways, outcome, sized_cases,
    tests_with_calls,
)
from plain_reading import wrong_line

WRITES = ("store", "copy", "up", "down", "fill", "call")
DEEDS = WRITES + ("load", "set", "join", "part", "each", "step")


def without(text, number):
    """A text without a line."""
    lines = text.split("\n")
    del lines[number - 1]
    return "\n".join(lines)


def writes(text):
    """The numbers of the write lines."""
    return [line.number for line in lines_of(text) if line.split(" ")[0] in WRITES]


def idle(pointers, text, under="", functions=None):
    """The idle write lines."""
    return [number for number in writes(text) if is_idle(pointers, text, number, under, functions)]


def is_idle(pointers, text, number, under="", functions=None):
    """Whether a write line is idle."""
    return first_parting(pointers, text, without(text, number), under, functions=functions) is None


def thinned(pointers, text, under="", functions=None):
    """What `thinned` tells, with the text of what is left."""
    gone = []
    for number in reversed(writes(text)):
        if is_idle(pointers, text, number, under, functions):
            text = without(text, number)
            gone.insert(0, number)
    return gone, text


def sources(pointers, text, number, under="", functions=None):
    """The sources of a line."""
    found = set()
    for places in all_cases(pointers, [text], [under], functions=functions):
        if keeps(under, pointers, places):
            found |= Walker(pointers, text, places, None, functions).sources.get(number, set())
    return sorted(found)


def exchanged(text, number):
    """A text with a line and the one behind it exchanged."""
    lines = text.split("\n")
    lines[number - 1], lines[number] = lines[number], lines[number - 1]
    return "\n".join(lines)


def turned(text, number, word):
    """A text with another first word of a line."""
    lines = text.split("\n")
    lines[number - 1] = " ".join([word] + lines[number - 1].split(" ")[1:])
    return "\n".join(lines)


def swap_lines(text):
    """The numbers of the deeds behind which stands a deed."""
    words = [line.split(" ")[0] for line in lines_of(text)]
    return [at + 1 for at in range(len(words) - 1) if words[at] in DEEDS and words[at + 1] in DEEDS]


def may_swap(pointers, text, number, under="", functions=None):
    """Whether two lines may be swapped."""
    other = exchanged(text, number)
    if wrong_line(pointers, other, functions) is not None:
        return False
    return first_parting(pointers, text, other, under, functions=functions) is None


def copy_ways(pointers, text, number, under="", functions=None):
    """The words that may stand as the first one of a line."""
    return [
        word for word in ("copy", "down", "up")
        if first_parting(pointers, text, turned(text, number, word), under, functions=functions) is None
    ]


def joined(*texts):
    """The text of some contracts together."""
    return "\n".join(text for text in texts if text)


def option_rows(pointers, one, two, options, under, functions):
    """For all cases that keep the contract, from which outcomes are not equal: the places and the true options."""
    rows = []
    for places in all_cases(pointers, [one, two], [under, options], functions=functions):
        if keeps(under, pointers, places):
            if outcome(pointers, one, places, functions) != outcome(pointers, two, places, functions):
                lines = lines_of(options)
                rows.append((places, {k for k in range(len(lines)) if fact_is_true(lines[k], pointers, places)}))
    return rows


def needs(pointers, one, two, options, under="", functions=None):
    """The least choices, each asked for by itself."""
    rows = option_rows(pointers, one, two, options, under, functions)
    many = range(len(lines_of(options)))
    enough = []
    for size in range(len(many) + 1):
        for choice in itertools.combinations(many, size):
            if not any(set(choice) <= true for _, true in rows):
                enough.append(choice)
    least = [row for row in enough if not any(set(row) - {one} == set(other) for one in row for other in enough)]
    return sorted(list(choice) for choice in least)


def stuck(pointers, one, two, options, under="", functions=None):
    """The nearest places that keep all, and from which the outcomes are not equal, or None."""
    for places, true in option_rows(pointers, one, two, options, under, functions):
        if len(true) == len(lines_of(options)):
            return places
    return None


def false_at_calls(pointers, text, places, functions):
    """The line, the name and the index of each needed line that is false at a call in a run."""
    found = set()
    for number, name, cells in Walker(pointers, text, places, None, functions).called:
        names, _, needed = functions[name]
        for index, line in enumerate(lines_of(needed)):
            if not fact_is_true(line, names, cells):
                found.add((number, name, index))
    return found


def broken_calls(pointers, text, under="", functions=None):
    """What `broken_calls` tells."""
    found = {}
    for places in all_cases(pointers, [text], [under], functions=functions):
        if keeps(under, pointers, places):
            for number, _, index in false_at_calls(pointers, text, places, functions):
                found.setdefault((number, index), places)
    return [(*key, found[key]) for key in sorted(found)]


def may_replace(one, two, functions):
    """Whether the second function, a triple, may replace the first one."""
    if len(one[0]) != len(two[0]):
        return False
    many = len(one[0])
    reach, facts = [], lines_of(one[2]) + lines_of(two[2])
    for names, text, _ in (one, two):
        offsets = offsets_on_all_ways(names, text, functions)
        reach += [offset for name in offsets for offset in offsets[name]]
        facts += tests_with_calls(text, functions)
    for places in sized_cases(many, reach, facts):
        if keeps(one[2], one[0], places):
            if not keeps(two[2], two[0], places):
                return False
            if outcome(one[0], one[1], places, functions) != outcome(two[0], two[1], places, functions):
                return False
    return True


def callers(functions, roots):
    """All callers: the index or name, the pointers, the text and the contract. Roots are triples."""
    yield from ((at, *root) for at, root in enumerate(roots))
    for name, (pointers, text, needed) in functions.items():
        yield name, pointers, text, needed


def caller_rows(functions, roots):
    """For each caller and all its cases: the caller, the lines of its contract that are false, what is false at calls."""
    rows = []
    for caller, pointers, text, facts in callers(functions, roots):
        if "call " in text:
            for places in all_cases(pointers, [text], [facts], functions=functions):
                lines = lines_of(facts)
                false = {k for k in range(len(lines)) if not fact_is_true(lines[k], pointers, places)}
                rows.append((caller, false, false_at_calls(pointers, text, places, functions)))
    return rows


def is_kept(choice, rows):
    """Whether a choice, a set of pairs of a name and an index, is kept."""
    for caller, false, calls in rows:
        counted = bool(false) if isinstance(caller, int) else any((caller, index) in choice for index in false)
        if not counted and any((name, index) in choice for _, name, index in calls):
            return False
    return True


def kept_needs(functions, roots):
    """The greatest kept choice, by trying all of them."""
    rows = caller_rows(functions, roots)
    lines = [(name, k) for name, (_, _, needed) in functions.items() for k in range(len(lines_of(needed)))]
    kept = []
    for picks in itertools.product((False, True), repeat=len(lines)):
        choice = {line for line, pick in zip(lines, picks) if pick}
        if is_kept(choice, rows):
            kept.append(choice)
    whole = set().union(*kept)
    assert whole in kept
    return {name: sorted(k for one, k in whole if one == name) for name in functions}


def wrong_reason(functions, roots, told):
    """The first tuple of what `left_out` told that does not say why a line is left out, or None."""
    by_caller = {row[0]: row[1:] for row in callers(functions, roots)}
    before = set()
    for row in told:
        name, index, caller, number, places = row
        pointers, text, facts = by_caller[caller]
        lines = lines_of(facts)
        false = [k for k in range(len(lines)) if not fact_is_true(lines[k], pointers, places)]
        if any((caller, k) not in before for k in false):
            return row
        if (number, name, index) not in false_at_calls(pointers, text, places, functions) or (name, index) in before:
            return row
        before.add((name, index))
    return None
