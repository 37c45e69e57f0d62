"""Contracts: facts that places keep."""

from partlymet.cases import near_places
from partlymet.errors import BadContract, OtherPointers
from partlymet.facts import far_of, modulus_of, read_fact
from partlymet.texts import check_places, lines_of, read_pointers

MOST_FACTS = 12


class Contract:
    """A contract over some pointers."""

    def __init__(self, pointers, text):
        self.pointers = read_pointers(pointers)
        self.text = text
        self.lines = tuple(lines_of(text))
        self.facts = read_facts(self.lines, self.pointers)
        self.far = far_of(self.facts)
        self.modulus = modulus_of(self.facts)

    def keeps(self, places):
        """Whether the places keep the contract."""
        check_places(self.pointers, places)
        for fact in self.facts:
            if not fact.holds(places):
                return False
        return True

    def broken(self, places):
        """The indexes of the lines that are false of the places."""
        check_places(self.pointers, places)
        return [index for index, fact in enumerate(self.facts) if not fact.holds(places)]

    def nearest(self):
        """The nearest places that keep the contract, or None."""
        for places in near_places(len(self.pointers), 0, self.far, self.modulus):
            if self.keeps(places):
                return places
        return None

    def follows(self, line):
        """Whether a fact follows from the contract."""
        fact = read_fact(line.split(" "), self.pointers)
        if fact is None:
            raise BadContract(1)
        far, modulus = far_of([self, fact]), modulus_of([self, fact])
        for places in near_places(len(self.pointers), 0, far, modulus):
            if not fact.holds(places) and self.keeps(places):
                return False
        return True

    def idle(self):
        """The indexes of the lines that follow from all other lines together."""
        needed = {}
        for places in near_places(len(self.pointers), 0, self.far, self.modulus):
            false = self.broken(places)
            if len(false) == 1:
                needed[false[0]] = True
        return [index for index in range(len(self.lines)) if index not in needed]

    def implies(self, other):
        """Whether all places that keep this contract keep the other one."""
        if self.pointers != other.pointers:
            raise OtherPointers()
        far, modulus = far_of([self, other]), modulus_of([self, other])
        for places in near_places(len(self.pointers), 0, far, modulus):
            if self.keeps(places) and not other.keeps(places):
                return False
        return True

    def same(self, other):
        """Whether each of the two contracts implies the other one."""
        return self.implies(other) and other.implies(self)

    def __len__(self):
        return len(self.lines)

    def __iter__(self):
        return iter(self.lines)

    def __and__(self, other):
        if self.pointers != other.pointers:
            raise OtherPointers()
        added = [index for index, line in enumerate(other.lines) if line not in self.lines]
        lines = self.lines + tuple([other.lines[index] for index in added])
        facts = self.facts + tuple([other.facts[index] for index in added])
        # The lines are read already, and there may be more of them than can be read at once.
        both = Contract(self.pointers, "")
        both.text = "\n".join(lines)
        both.lines = lines
        both.facts = facts
        both.far = far_of(facts)
        both.modulus = modulus_of(facts)
        return both


def read_facts(lines, pointers):
    """The facts of the lines of a contract."""
    facts = []
    for index, line in enumerate(lines):
        fact = read_fact(line.split(" "), pointers)
        if fact is None or line in lines[:index] or index == MOST_FACTS:
            raise BadContract(index + 1)
        facts.append(fact)
    return tuple(facts)
