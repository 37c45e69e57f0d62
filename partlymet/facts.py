"""Facts about places: how they are read, and where they are true."""

from partlymet.texts import read_number, read_pointer, read_spot

FARTHEST = 40
MOST_CELLS = 16
MODULI = (2, 4, 8)


class Fact:
    """A fact as it was read.

    `left` and `right` are indexes of pointers (`left` is None where the place of one pointer is
    meant); those of `apart` are spots. `numbers` are what the fact says of them. `spans` are the
    rows of cells that an `apart` speaks of: each a pointer, a shift and a length.
    """

    def __init__(self, word, left, right, numbers):
        self.word = word
        self.left = left
        self.right = right
        self.numbers = numbers
        self.spans = ()
        self.far = 0
        self.modulus = 1
        if word == "apart":
            self.spans = (left + (numbers[0],), right + (numbers[1],))
            self.far = numbers[0] + numbers[1] + abs(left[1]) + abs(right[1])
        elif word == "by":
            self.modulus = numbers[0]
        else:
            self.far = abs(numbers[0])

    def holds(self, places):
        """Whether the fact is true of the places."""
        if self.word == "apart":
            (one, ahead, many), (other, behind, most) = self.spans
            start, begin = places[one] + ahead, places[other] + behind
            return start + many <= begin or begin + most <= start
        distance = places[self.right]
        if self.left is not None:
            distance = distance - places[self.left]
        if self.word == "by":
            return distance % self.numbers[0] == self.numbers[1]
        if self.word == "from":
            return distance >= self.numbers[0]
        if self.word == "upto":
            return distance <= self.numbers[0]
        return distance == self.numbers[0]


def read_fact(words, pointers):
    """The fact that these words tell, or None."""
    if len(words) == 5 and words[0] == "apart":
        return read_apart(words, pointers)
    if len(words) == 5 and words[1] == "to" and words[3] in ("from", "upto", "is"):
        return read_distance(words, pointers)
    if len(words) == 4 and words[1] == "by":
        return read_remainder(None, read_pointer(words[0], pointers), words[2:])
    if len(words) == 6 and words[1] == "to" and words[3] == "by":
        first, second = read_pointer(words[0], pointers), read_pointer(words[2], pointers)
        return None if first is None or first == second else read_remainder(first, second, words[4:])
    return None


def read_apart(words, pointers):
    """The fact `apart SPOT A SPOT B`, or None."""
    first, second = read_spot(words[1], pointers), read_spot(words[3], pointers)
    many, most = read_number(words[2], 1, MOST_CELLS), read_number(words[4], 1, MOST_CELLS)
    if first is None or second is None or many is None or most is None or first[0] == second[0]:
        return None
    return Fact("apart", first, second, (many, most))


def read_distance(words, pointers):
    """The fact `P to Q from D`, or with `upto` or `is`, or None."""
    first, second = read_pointer(words[0], pointers), read_pointer(words[2], pointers)
    distance = read_number(words[4], -FARTHEST, FARTHEST)
    if first is None or second is None or distance is None or first == second:
        return None
    return Fact(words[3], first, second, (distance,))


def read_remainder(first, second, words):
    """The fact that a place or a distance leaves a remainder, or None."""
    modulus = read_number(words[0], MODULI[0], MODULI[-1])
    if second is None or modulus not in MODULI:
        return None
    remainder = read_number(words[1], 0, modulus - 1)
    return None if remainder is None else Fact("by", first, second, (modulus, remainder))


def all_hold(facts, places):
    """Whether all facts are true of the places."""
    for fact in facts:
        if not fact.holds(places):
            return False
    return True


def far_of(things):
    """The greatest far of facts, contracts and programs, 0 if there are none."""
    return max([thing.far for thing in things], default=0)


def modulus_of(things):
    """The least common multiple of the moduli of facts, contracts and programs, 1 if there are none."""
    # Of 1, 2, 4 and 8 each divides the greater ones, so the greatest one is it.
    return max([thing.modulus for thing in things], default=1)
