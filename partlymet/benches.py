"""Benches: programs that are rewritten, each change checked under facts."""

from partlymet.compare import agreed, parting
from partlymet.contracts import fact_contract, without_fact
from partlymet.edits import check_copying, check_pair, check_write, with_swapped, with_word, without_line
from partlymet.errors import Clash, NoFact, NothingToUndo, Parted
from partlymet.needs import needs


class Bench:
    """A program that is being rewritten, and the facts under which it is.

    The state is a tuple: the present program, the facts, and the state before the latest change
    (None without one). States never change, so an earlier one can be taken back as it is.
    """

    def __init__(self, program, facts):
        agreed([program], facts)
        self._begun = program
        self._state = (program, facts, None)

    @property
    def first(self):
        """The first program."""
        return self._begun

    @property
    def now(self):
        """The present program."""
        return self._state[0]

    @property
    def facts(self):
        """The facts."""
        return self._state[1]

    def change(self, program):
        """Takes another program."""
        places = parting(self.now, program, under=self.facts)
        if places is not None:
            raise Parted(places)
        self._state = (program, self.facts, self._state)

    def drop(self, line):
        """Leaves out a write line."""
        check_write(self.now, line)
        self.change(without_line(self.now, line))

    def swap(self, line):
        """Exchanges a line and the one behind it."""
        check_pair(self.now, line)
        self.change(with_swapped(self.now, line))

    def turn(self, line, word):
        """Puts `copy`, `up` or `down` in the place of the first word of a line."""
        check_copying(self.now, line)
        self.change(with_word(self.now, line, word))

    def assume(self, text):
        """Adds a fact."""
        facts = self.facts & fact_contract(self.now.pointers, text)
        if facts.nearest() is None:
            raise Clash()
        self._state = (self.now, facts, self._state)

    def release(self, index):
        """Takes a fact away."""
        if not 0 <= index < len(self.facts):
            raise NoFact(index)
        facts = without_fact(self.facts, index)
        places = parting(self.first, self.now, under=facts)
        if places is not None:
            raise Parted(places)
        self._state = (self.now, facts, self._state)

    def used(self):
        """The least choices of the facts that are enough for the first and the present program."""
        return needs(self.first, self.now, self.facts)

    def undo(self):
        """Undoes the latest change that is not undone."""
        before = self._state[2]
        if before is None:
            raise NothingToUndo()
        self._state = before

    def attempt(self, action):
        """Calls the action with this bench; if an error leaves it, the bench is as it was before."""
        back = self._state
        try:
            told = action(self)
            back = None
        finally:
            if back is not None:
                self._state = back
        return told
