"""A plain second reading of what is wrong with a text, by [2], [4], [5], [7] and [8]."""

import re

RESERVED = (
    "input load store set join part each copy up down fill step when else end times give call to from upto is apart by"
).split()
NUMBER = "(0|-?[1-9][0-9]{0,8})"  # longer ones are in no range
NAME = "([a-z]{1,12})"
SPOT = "([a-z]+)([+-][1-9][0-9]{0,8})?"
FORMS = {
    "input": f"input {NAME} {NUMBER}",
    "load": f"load {NAME} {NUMBER} {SPOT}",
    "store": f"store {NAME} {SPOT}",
    "set": f"set {NAME}(( {NUMBER})+)",
    "join": f"join {NAME} {NAME} {NAME}",
    "part": f"part {NAME} {NAME} {NUMBER} {NUMBER}",
    "each": f"each {NAME} {NAME}",
    "copy": f"copy {NUMBER} from {SPOT} to {SPOT}",
    "up": f"up {NUMBER} from {SPOT} to {SPOT}",
    "down": f"down {NUMBER} from {SPOT} to {SPOT}",
    "fill": f"fill {NUMBER} {NAME} {SPOT}",
    "step": f"step ([a-z]+) {NUMBER}",
    "when": "when (.*)",
    "else": "else",
    "end": "end",
    "times": f"times {NUMBER}",
    "give": f"give(( {NAME})+)",
    "call": f"call {NAME}(( {SPOT})+)",
}
MANY = range(1, 17)


def right_name(word):
    return re.fullmatch("[a-z]{1,12}", word) is not None and word not in RESERVED


def right_spot(name, shift, pointers):
    return name in pointers and (not shift or 1 <= abs(int(shift)) <= 30)


def right_fact(line, pointers):
    """Whether a line is a fact over these pointers."""
    if match := re.fullmatch(f"(.*) to (.*) (from|upto|is) {NUMBER}", line):
        one, two = match[1], match[2]
        return one in pointers and two in pointers and one != two and -40 <= int(match[4]) <= 40
    if match := re.fullmatch(f"apart {SPOT} {NUMBER} {SPOT} {NUMBER}", line):
        if match[1] == match[4] or int(match[3]) not in MANY or int(match[6]) not in MANY:
            return False
        return right_spot(match[1], match[2], pointers) and right_spot(match[4], match[5], pointers)
    if match := re.fullmatch(f"(.*) to (.*) by (2|4|8) {NUMBER}", line):
        one, two = match[1], match[2]
        return one in pointers and two in pointers and one != two and 0 <= int(match[4]) < int(match[3])
    if match := re.fullmatch(f"(.*) by (2|4|8) {NUMBER}", line):
        return match[1] in pointers and 0 <= int(match[3]) < int(match[2])
    return False


def wrong_fact(pointers, text):
    """The first wrong line of a contract, or None."""
    lines = text.split("\n") if text else []
    for at, line in enumerate(lines):
        if at >= 12 or line in lines[:at] or not right_fact(line, pointers):
            return at + 1
    return None


class Reader:
    """Reads line after line, and stops at the first wrong one."""

    def __init__(self, pointers, functions=None):
        self.pointers = pointers
        self.functions = functions or {}
        self.widths = {}
        self.blocks = [set()]
        self.openers = []
        self.words = []

    def wrong(self, line):
        """Whether the next line is wrong."""
        word = line.split(" ")[0]
        if len(self.words) == 40 or "give" in self.words or word not in FORMS:
            return True
        match = re.fullmatch(FORMS[word], line)
        if match is None:
            return True
        right = getattr(self, "see_" + word)(*match.groups())
        self.words.append(word)
        return right is False

    def known(self, *registers):
        return all(any(name in block for block in self.blocks) for name in registers)

    def set_to(self, name, width):
        if not right_name(name) or self.widths.setdefault(name, width) != width:
            return False
        self.blocks[-1].add(name)
        return True

    def see_input(self, x, w):
        if set(self.words) - {"input"} or x in self.widths or not 1 <= int(w) <= 8:
            return False
        return self.set_to(x, int(w))

    def see_load(self, x, w, name, shift):
        return int(w) in (1, 2, 4, 8) and right_spot(name, shift, self.pointers) and self.set_to(x, int(w))

    def see_store(self, x, name, shift):
        return self.known(x) and right_spot(name, shift, self.pointers)

    def see_set(self, x, numbers, *_):
        values = [int(word) for word in numbers.split()]
        if len(values) > 8 or not all(0 <= value <= 255 for value in values):
            return False
        return self.set_to(x, len(values))

    def see_join(self, x, y, z):
        if not self.known(y, z) or self.widths[y] + self.widths[z] > 16:
            return False
        return self.set_to(x, self.widths[y] + self.widths[z])

    def see_part(self, x, y, a, w):
        if not self.known(y) or int(a) < 0 or int(w) < 1 or int(a) + int(w) > self.widths[y]:
            return False
        return self.set_to(x, int(w))

    def see_each(self, f, x):
        return right_name(f) and self.known(x)

    def see_copy(self, n, one, by, two, again):
        if int(n) not in MANY:
            return False
        return right_spot(one, by, self.pointers) and right_spot(two, again, self.pointers)

    see_up = see_down = see_copy

    def see_fill(self, n, x, name, shift):
        if int(n) not in MANY or not self.known(x) or self.widths[x] != 1:
            return False
        return right_spot(name, shift, self.pointers)

    def see_call(self, name, spots, *_):
        if name not in self.functions:
            return False
        words = [re.fullmatch(SPOT, word) for word in spots.split()]
        if len(words) != len(self.functions[name][0]):
            return False
        return all(right_spot(word[1], word[2], self.pointers) for word in words)

    def see_step(self, p, d):
        return p in self.pointers and -30 <= int(d) <= 30

    def see_when(self, fact):
        return right_fact(fact, self.pointers) and self.opened("when")

    def see_times(self, k):
        return 1 <= int(k) <= 5 and self.opened("times")

    def opened(self, word):
        self.openers.append((word, None))
        self.blocks.append(set())
        return len(self.openers) <= 5

    def see_else(self):
        if not self.openers or self.openers[-1][0] != "when":
            return False
        self.openers[-1] = ("else", self.blocks[-1])
        self.blocks[-1] = set()
        return True

    def see_end(self):
        if not self.openers:
            return False
        word, first = self.openers.pop()
        inner = self.blocks.pop()
        if word == "times":
            self.blocks[-1] |= inner
        if word == "else":
            self.blocks[-1] |= first & inner
        return True

    def see_give(self, registers, *_):
        names = registers.split()
        return not self.openers and len(names) <= 4 and self.known(*names)


def wrong_line(pointers, text, functions=None):
    """The first wrong line of a program, the number of lines plus 1 if an `end` is lacking, or None."""
    reader = Reader(pointers, functions)
    lines = text.split("\n") if text else []
    for at, line in enumerate(lines):
        if reader.wrong(line):
            return at + 1
    return len(lines) + 1 if reader.openers else None
