"""What texts are made of: lines, names, numbers, pointers, spots."""

from partlymet.errors import BadPlaces, BadPointers

LETTERS = "abcdefghijklmnopqrstuvwxyz"
RESERVED = (
    "input", "load", "store", "set", "join", "part", "each", "copy", "up", "down", "fill", "step", "when", "else",
    "end", "times", "give", "call", "to", "from", "upto", "is", "apart", "by",
)
LONGEST_NAME = 12
MOST_POINTERS = 3
FARTHEST_SPOT = 30
LONGEST_NUMBER = 3


def lines_of(text):
    """The lines of a text; the empty text has none."""
    return text.split("\n") if text else []


def first_word(line):
    """What stands ahead of the first space of a line."""
    return line.split(" ")[0]


def is_name(word):
    """Whether a word is a name."""
    if not 1 <= len(word) <= LONGEST_NAME or word in RESERVED:
        return False
    return all([letter in LETTERS for letter in word])


def read_pointers(pointers):
    """The pointers as a tuple, if they are one to three different names."""
    names = tuple(pointers)
    if not names:
        raise BadPointers(0)
    for index, name in enumerate(names):
        if index == MOST_POINTERS or not is_name(name) or name in names[:index]:
            raise BadPointers(index)
    return names


def check_places(pointers, places):
    """Nothing, if there is one place for each pointer."""
    if len(places) != len(pointers):
        raise BadPlaces()


def read_number(word, low, high):
    """The number from low to high that a word tells, or None."""
    digits = word[1:] if word.startswith("-") else word
    # No range has numbers of more digits, and Python does not read numbers of thousands of them.
    if not digits.isdigit() or len(digits) > LONGEST_NUMBER:
        return None
    if digits.startswith("0") and word != "0":
        return None
    number = int(word)
    return number if low <= number <= high else None


def read_pointer(word, pointers):
    """The index of the pointer of this name, or None."""
    # What operators run calls no method by a name that objects of the package have as an attribute
    # (`index` is one, of the errors): so the pointers are gone through here.
    for index, name in enumerate(pointers):
        if name == word:
            return index
    return None


def read_spot(word, pointers):
    """The index of the pointer and the number with its sign of a spot, or None."""
    sign = "+" if "+" in word else "-"
    name, found, digits = word.partition(sign)
    pointer = read_pointer(name, pointers)
    if pointer is None:
        return None
    if not found:
        return (pointer, 0)
    number = read_number(digits, 1, FARTHEST_SPOT)
    if number is None:
        return None
    return (pointer, number if sign == "+" else -number)
