"""The forms of the lines of a program, each line by itself."""

from partlymet.facts import read_fact
from partlymet.texts import is_name, read_number, read_pointer, read_spot

RANGES = {
    "wide": (1, 8),
    "many": (1, 16),
    "index": (0, 15),
    "cell": (0, 255),
    "jump": (-30, 30),
    "laps": (1, 5),
    "chunk": (1, 8),
}
CHUNKS = (1, 2, 4, 8)
# What stands behind the first word: ranges, `name`, `spot`, `pointer`, and words as they are.
FORMS = {
    "input": "name wide",
    "load": "name chunk spot",
    "store": "name spot",
    "join": "name name name",
    "part": "name name index many",
    "each": "name name",
    "copy": "many from spot to spot",
    "up": "many from spot to spot",
    "down": "many from spot to spot",
    "fill": "many name spot",
    "step": "pointer jump",
    "times": "laps",
    "else": "",
    "end": "",
}
FIXED = ("from", "to")
MOST_SET = 8
MOST_GIVEN = 4


def read_line(line, pointers, functions):
    """The first word of a line and a tuple of what the others tell, or None if it has no right form.

    `functions` is a dict from names to the functions that may be called.
    """
    words = line.split(" ")
    if words[0] == "when":
        fact = read_fact(words[1:], pointers)
        return None if fact is None else ("when", (fact,))
    if words[0] == "call":
        return read_call(words[1:], pointers, functions)
    kinds = kinds_of(words[0], len(words) - 1)
    if kinds is None:
        return None
    told = [read_word(kind, word, pointers) for kind, word in zip(kinds, words[1:])]
    if None in told:
        return None
    return (words[0], tuple([one for kind, one in zip(kinds, told) if kind not in FIXED]))


def read_call(words, pointers, functions):
    """A line `call`, which tells the name, the function and a tuple of the spots, or None."""
    if not words or words[0] not in functions:
        return None
    function = functions[words[0]]
    spots = tuple([read_spot(word, pointers) for word in words[1:]])
    if None in spots or len(spots) != len(function.pointers):
        return None
    return ("call", (words[0], function, spots))


def kinds_of(word, many):
    """The kinds of the `many` words behind the first word of a line, or None if they cannot be so many."""
    if word == "set":
        return ["name"] + ["cell"] * (many - 1) if 2 <= many <= 1 + MOST_SET else None
    if word == "give":
        return ["name"] * many if 1 <= many <= MOST_GIVEN else None
    kinds = FORMS[word].split() if word in FORMS else []
    return kinds if word in FORMS and len(kinds) == many else None


def read_word(kind, word, pointers):
    """What a word of this kind tells, or None."""
    if kind == "name":
        return word if is_name(word) else None
    if kind == "spot":
        return read_spot(word, pointers)
    if kind == "pointer":
        return read_pointer(word, pointers)
    if kind in FIXED:
        return word if word == kind else None
    low, high = RANGES[kind]
    number = read_number(word, low, high)
    return None if kind == "chunk" and number not in CHUNKS else number
