"""Contracts: facts that places keep."""

from partlymet.cases import near_places
from partlymet.errors import BadContract, OtherPointers
from partlymet.facts import all_hold, far_of, modulus_of, read_fact
from partlymet.texts import check_places, lines_of, read_pointers

MOST_FACTS = 12


class Contract:
    """A contract over some pointers. Its `rows` are the facts that its lines tell."""

    def __init__(self, pointers, text):
        self.pointers = read_pointers(pointers)
        self.text = text
        self.lines = tuple(lines_of(text))
        self.rows = read_facts(self.lines, self.pointers)
        self.far = far_of(self.rows)
        self.modulus = modulus_of(self.rows)

    def keeps(self, places):
        """Whether the places keep the contract."""
        check_places(self.pointers, places)
        return all_hold(self.rows, places)

    def broken(self, places):
        """The indexes of the lines that are false of the places."""
        check_places(self.pointers, places)
        return [index for index, fact in enumerate(self.rows) if not fact.holds(places)]

    def nearest(self):
        """The nearest places that keep the contract, or None."""
        for places in near_places(len(self.pointers), 0, self.far, self.modulus):
            if self.keeps(places):
                return places
        return None

    def follows(self, line):
        """Whether a fact follows from the contract."""
        return implied(self, fact_contract(self.pointers, line))

    def idle(self):
        """The indexes of the lines that follow from all other lines together."""
        needed = {}
        for places in near_places(len(self.pointers), 0, self.far, self.modulus):
            false = self.broken(places)
            if len(false) == 1:
                needed[false[0]] = True
        return [index for index in range(len(self.lines)) if index not in needed]

    def implies(self, other):
        """Whether all places that keep this contract keep the other one."""
        if self.pointers != other.pointers:
            raise OtherPointers()
        return implied(self, other)

    def same(self, other):
        """Whether each of the two contracts implies the other one."""
        return self.implies(other) and other.implies(self)

    def __len__(self):
        return len(self.lines)

    def __iter__(self):
        return iter(self.lines)

    def __and__(self, other):
        if self.pointers != other.pointers:
            raise OtherPointers()
        added = [index for index, line in enumerate(other.lines) if line not in self.lines]
        lines = self.lines + tuple([other.lines[index] for index in added])
        rows = self.rows + tuple([other.rows[index] for index in added])
        return joined_lines(self.pointers, lines, rows)


def read_facts(lines, pointers):
    """The facts of the lines of a contract."""
    rows = []
    for index, line in enumerate(lines):
        fact = read_fact(line.split(" "), pointers)
        if fact is None or line in lines[:index] or index == MOST_FACTS:
            raise BadContract(index + 1)
        rows.append(fact)
    return tuple(rows)


def joined_lines(pointers, lines, rows):
    """The contract of lines that are read already: there may be more of them than can be read at once."""
    joined = Contract(pointers, "")
    joined.text = "\n".join(lines)
    joined.lines = lines
    joined.rows = rows
    joined.far = far_of(rows)
    joined.modulus = modulus_of(rows)
    return joined


def fact_contract(pointers, text):
    """The contract of a single fact."""
    fact = read_fact(text.split(" "), pointers)
    if fact is None:
        raise BadContract(1)
    return joined_lines(pointers, (text,), (fact,))


def without_fact(contract, index):
    """The contract of the other lines."""
    lines, rows = contract.lines, contract.rows
    return joined_lines(contract.pointers, lines[:index] + lines[index + 1:], rows[:index] + rows[index + 1:])


def implied(one, other):
    """Whether all places that keep one contract keep the other one, whatever their pointers are called."""
    far, modulus = far_of([one, other]), modulus_of([one, other])
    for places in near_places(len(one.pointers), 0, far, modulus):
        if one.keeps(places) and not other.keeps(places):
            return False
    return True
