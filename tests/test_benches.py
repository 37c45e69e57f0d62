"""Point [20], and the interface of partlymet/benches.py."""

import unittest

from partlymet.benches import Bench
from partlymet.books import Book, Function
from partlymet.compare import alike
from partlymet.contracts import Contract
from partlymet.errors import (
    BadContract, BadProgram, Clash, NoFact, NoLine, NothingToUndo, OtherPointers, Parted, TooMany,
)
from partlymet.programs import Program
from support import Asking

TWO = ["p", "q"]
HUGE = 10 ** 999
NOWHERE = "p to q is 0\np to q is 1"
COPY = "copy 3 from p to q"
UP = "up 3 from p to q"


def bench(text=COPY, facts="", book=None):
    program = Program(TWO, text) if book is None else book.read(TWO, text)
    return Bench(program, Contract(TWO, facts))


class Benches(Asking):
    """What tests of benches ask for."""

    def state(self, one):
        return one.first, one.now, one.facts, one.first.text, one.now.text, one.facts.text

    def at(self, one, text, facts=""):
        """Whether a bench has this text and these facts."""
        self.assertEqual([one.now.text, one.facts.text], [text, facts])
        self.assertIsInstance(one.now, Program)
        self.assertIsInstance(one.facts, Contract)
        self.assertTrue(alike(one.first, one.now, under=one.facts))

    def refuses(self, one, kind, action, *arguments, **fields):
        """Whether a call raises this error and changes nothing, also not what can be undone."""
        before = self.state(one)
        self.fails(kind, action, *arguments, **fields)
        after = self.state(one)
        for old, new in zip(before[:3], after[:3]):
            self.assertIs(old, new)
        self.assertEqual(before, after)


class Beginning(Benches):
    def test_properties(self):
        program, facts = Program(TWO, COPY), Contract(TWO, "p to q from 1")
        one = Bench(program, facts)
        self.assertIs(one.first, program)
        self.assertIs(one.now, program)
        self.assertIs(one.facts, facts)
        for name in ("first", "now", "facts"):
            self.assertIsInstance(vars(Bench)[name], property)

    def test_other_pointers(self):
        for names in (["p"], ["q", "p"], ["p", "q", "r"]):
            self.fails(OtherPointers, Bench, Program(TWO, COPY), Contract(names, ""))

    def test_facts_that_no_places_keep(self):
        one = bench(COPY, NOWHERE)
        one.change(Program(TWO, "set x 1\nstore x p"))
        self.at(one, "set x 1\nstore x p", NOWHERE)
        self.refuses(one, Clash, one.assume, "p by 2 0")
        self.assertEqual(one.used(), [[0, 1]])


class Changes(Benches):
    def test_change(self):
        one, other = bench(COPY, "p to q upto 0"), Program(TWO, UP)
        self.assertIsNone(one.change(other))
        self.assertIs(one.now, other)
        self.at(one, UP, "p to q upto 0")
        self.assertEqual(one.first.text, COPY)

    def test_a_change_that_parts(self):
        one = bench()
        self.refuses(one, Parted, one.change, Program(TWO, UP), places=(0, 1))
        one = bench(COPY, "p to q from 2\np by 2 1")
        self.refuses(one, Parted, one.change, Program(TWO, UP), places=(1, 3))

    def test_a_change_is_measured_against_the_present_program(self):
        one = bench("set x 1\nstore x p\nset y 2\nstore y q", "p to q from 1")
        one.swap(2)
        one.swap(3)
        self.refuses(one, Parted, one.drop, 3, places=(0, 1))

    def test_change_of_other_pointers_comes_first(self):
        one = bench()
        self.refuses(one, OtherPointers, one.change, Program(["q", "p"], UP))
        self.refuses(one, OtherPointers, one.change, Program(["p"], "set x 1\nstore x p"))

    def test_drop(self):
        one = bench("set x 1\nstore x p\nstore x p\nstep p 1")
        self.assertIsNone(one.drop(2))
        self.at(one, "set x 1\nstore x p\nstep p 1")
        self.refuses(one, Parted, one.drop, 2, places=(0, 0))
        one = bench("copy 1 from p to p")
        one.drop(1)
        self.at(one, "")

    def test_drop_lines_that_are_none(self):
        text = "\n".join([
            "input i 1", "load x 1 p", "store x q", "set y 1", "join z x y", "part v z 1 1", "each f v",
            "copy 1 from p to q", "up 1 from p to q", "down 1 from p to q", "fill 1 y p", "step p 2",
            "when p by 2 0", "else", "end", "times 2", "end", "give v",
        ])
        one = bench(text)
        for line in (1, 2, 4, 5, 6, 7, *range(12, 20), 0, -1, -8, HUGE, -HUGE):
            self.refuses(one, NoLine, one.drop, line, line=line)
        empty = bench("")
        self.refuses(empty, NoLine, empty.drop, 1, line=1)
        self.refuses(empty, NoLine, empty.drop, 0, line=0)

    def test_swap(self):
        one = bench("set x 1\nset y 2\nstore x p\nstore y q", "p to q from 1")
        self.assertIsNone(one.swap(3))
        self.at(one, "set x 1\nset y 2\nstore y q\nstore x p", "p to q from 1")
        one = bench("set x 1\nset y 2\nstore x p\nstore y q")
        self.refuses(one, Parted, one.swap, 3, places=(0, 0))
        one.swap(1)
        self.at(one, "set y 2\nset x 1\nstore x p\nstore y q")

    def test_swap_lines_that_are_none(self):
        one = bench("input i 1\nload x 1 p\nstore x q\ntimes 2\nstep p 1\nend\nstep p 1")
        for line in (1, 3, 4, 5, 6, 7, 8, 0, -1, -2, HUGE, -HUGE):
            self.refuses(one, NoLine, one.swap, line, line=line)

    def test_swap_to_a_text_that_cannot_be_read(self):
        one = bench("load x 1 p\nstore x q")
        self.refuses(one, BadProgram, one.swap, 1, line=1)
        one = bench("step p 0\nset x 1\neach f x\nstore x q")
        self.refuses(one, BadProgram, one.swap, 2, line=2)
        one = bench("set x 1 2\npart y x 1 1\nset y 3\nstore y q", NOWHERE)
        self.refuses(one, BadProgram, one.swap, 1, line=1)

    def test_turn(self):
        one = bench(COPY, "p to q upto -1")
        self.assertIsNone(one.turn(1, "up"))
        self.at(one, UP, "p to q upto -1")
        self.refuses(one, Parted, one.turn, 1, "down", places=(1, 0))
        one.turn(1, "copy")
        one.turn(1, "copy")
        self.at(one, COPY, "p to q upto -1")
        one = bench("step p 0\ntimes 2\ndown 16 from p+30 to q-30\nend", "p to q is 40\np to q by 2 0")
        self.refuses(one, NoLine, one.turn, 2, "up", line=2)
        one.turn(3, "copy")
        self.at(one, "step p 0\ntimes 2\ncopy 16 from p+30 to q-30\nend", "p to q is 40\np to q by 2 0")

    def test_turn_lines_that_are_none(self):
        one = bench("load x 1 p\nstore x q\ncopy 1 from p to q\nfill 1 x p\nstep p 1\ncopy 1 from p to q")
        for line in (1, 2, 4, 5, 7, 0, -1, HUGE, -HUGE):
            for word in ("copy", "up", "down"):
                self.refuses(one, NoLine, one.turn, line, word, line=line)

    def test_programs_with_calls(self):
        book = Book()
        book["f"] = Function(Program(["a", "b"], "copy 1 from a to b"), Contract(["a", "b"], "a by 2 0"))
        one = bench("call f p q\ncall f p q\nset x 1\nstore x q\ncopy 2 from p to q+1", "p to q from 2", book)
        one.drop(1)
        one.swap(1)
        self.at(one, "set x 1\ncall f p q\nstore x q\ncopy 2 from p to q+1", "p to q from 2")
        one.turn(4, "down")
        one.swap(3)
        one.change(book.read(TWO, "set x 1\nstore x q\ncopy 2 from p to q+1"))
        self.at(one, "set x 1\nstore x q\ncopy 2 from p to q+1", "p to q from 2")


class Facts(Benches):
    def test_assume(self):
        one = bench(COPY, "p by 2 0")
        before = one.facts
        self.assertIsNone(one.assume("p to q from 6"))
        self.at(one, COPY, "p by 2 0\np to q from 6")
        self.assertEqual([before.text, one.facts.lines], ["p by 2 0", ("p by 2 0", "p to q from 6")])
        one.turn(1, "up")
        self.at(one, UP, "p by 2 0\np to q from 6")

    def test_assume_what_is_among_them(self):
        one = bench(COPY, "p by 2 0\nq by 2 0")
        one.assume("p by 2 0")
        self.at(one, COPY, "p by 2 0\nq by 2 0")
        one.undo()
        self.refuses(one, NothingToUndo, one.undo)

    def test_no_facts(self):
        one = bench()
        for text in (
            "", " ", "p", "p by 2 2", "p to q from 41", "p to r is 1", "p by 2 0\n", "\np by 2 0", "p by 2 0\nq by 2 0",
            "p by 2 0 ", "p to q is -0", "p to q is 01", "P by 2 0", "apart p 1 p 1", "step p 1",
        ):
            self.refuses(one, BadContract, one.assume, text, line=1)
        one = bench(COPY, NOWHERE)
        self.refuses(one, BadContract, one.assume, "p to q from 41", line=1)

    def test_clash(self):
        one = bench(COPY, "p to q from 1")
        self.refuses(one, Clash, one.assume, "p to q upto 0")
        one.assume("p by 2 0")
        one.assume("q by 2 0")
        self.refuses(one, Clash, one.assume, "p to q by 4 1")
        self.at(one, COPY, "p to q from 1\np by 2 0\nq by 2 0")

    def test_far_facts_clash_only_where_they_do(self):
        one = bench(COPY, "p to q upto 39")
        self.refuses(one, Clash, one.assume, "p to q from 40")
        one.assume("p to q from 39")
        one.assume("p by 8 7")
        self.refuses(one, Clash, one.assume, "q by 8 7")
        one.assume("q by 8 6")
        self.refuses(one, Clash, one.assume, "apart p+30 10 q 1")
        one.assume("apart p+30 9 q 1")
        self.assertEqual(one.facts.nearest(), (7, 46))

    def test_clash_also_if_it_was_among_them(self):
        one = bench(COPY, NOWHERE)
        self.refuses(one, Clash, one.assume, "p to q is 0")
        self.refuses(one, Clash, one.assume, "p by 8 3")

    def test_more_than_twelve_facts(self):
        one = bench(COPY)
        lines = [f"p to q from {-k}" for k in range(14)] + ["p by 2 0"]
        for line in lines:
            one.assume(line)
        self.at(one, COPY, "\n".join(lines))
        self.assertEqual(len(one.facts), 15)
        one.assume("p to q from -3")
        self.assertEqual(len(one.facts), 15)
        one.assume("apart p 3 q 3")
        one.turn(1, "up")
        self.refuses(one, TooMany, one.used, limit=8)
        one.release(0)
        self.at(one, UP, "\n".join(lines[1:] + ["apart p 3 q 3"]))
        self.refuses(one, Parted, one.release, 14, places=(0, 1))
        for index in range(7):
            one.release(0)
        self.assertEqual([len(one.facts), one.used()], [8, [[7]]])

    def test_release(self):
        one = bench(COPY, "p by 2 0\np to q from 6\nq by 2 1")
        one.turn(1, "up")
        self.assertIsNone(one.release(0))
        self.at(one, UP, "p to q from 6\nq by 2 1")
        one.release(1)
        self.at(one, UP, "p to q from 6")
        self.refuses(one, Parted, one.release, 0, places=(0, 1))

    def test_release_is_measured_against_the_first_program(self):
        one = bench(COPY, "p to q from 6")
        one.turn(1, "up")
        one.change(Program(TWO, "up 3 from p to q\nstep p 1"))
        self.refuses(one, Parted, one.release, 0, places=(0, 1))
        one.change(Program(TWO, "copy 3 from p to q\nstep p 1"))
        one.release(0)
        self.at(one, "copy 3 from p to q\nstep p 1")

    def test_release_under_the_remaining_facts(self):
        one = bench(COPY, "p to q from 1\np to q by 4 3\np by 4 3")
        one.turn(1, "up")
        self.refuses(one, Parted, one.release, 1, places=(3, 4))
        one.release(0)
        self.at(one, UP, "p to q by 4 3\np by 4 3")

    def test_no_fact(self):
        one = bench(COPY, "p by 2 0\nq by 2 0")
        for index in (2, -1, -2, 12, HUGE, -HUGE):
            self.refuses(one, NoFact, one.release, index, index=index)
        empty = bench()
        self.refuses(empty, NoFact, empty.release, 0, index=0)

    def test_used(self):
        one = bench(COPY, "p to q upto 1\np to q from 3\np by 2 0\nq by 2 0")
        self.is_list(one.used(), [[]])
        one.turn(1, "up")
        found = one.used()
        self.is_list(found, [[0, 2, 3], [1]])
        found[0].clear()
        self.is_list(one.used(), [[0, 2, 3], [1]])

    def test_used_by_eight_facts_and_nine(self):
        lines = ["p to q from 3"] + [f"p to q from {-k}" for k in range(7)]
        one = bench(COPY, "\n".join(lines))
        one.turn(1, "up")
        self.is_list(one.used(), [[0]])
        one.assume("p by 2 0")
        self.refuses(one, TooMany, one.used, limit=8)
        one.undo()
        self.is_list(one.used(), [[0]])


class Undoing(Benches):
    def test_each_call_is_one_change(self):
        one = bench("set x 1\nset y 2\nstore x p\nstore y q\ncopy 1 from p to p\ncopy 3 from p to q", "p by 2 0")
        states = [self.state(one)]
        for action, arguments in (
            (one.assume, ["p to q from 3"]), (one.swap, [3]), (one.drop, [5]), (one.turn, [5, "down"]),
            (one.release, [0]), (one.change, [one.first]), (one.turn, [6, "copy"]), (one.assume, ["p to q from 3"]),
            (one.release, [0]), (one.swap, [1]),
        ):
            action(*arguments)
            states.append(self.state(one))
        while len(states) > 1:
            self.assertEqual(self.state(one), states.pop())
            self.assertIsNone(one.undo())
        self.assertEqual(self.state(one), states[0])
        self.assertIs(one.now, one.first)
        self.refuses(one, NothingToUndo, one.undo)

    def test_changes_after_which_nothing_differs(self):
        one = bench(COPY, "p by 2 0")
        one.change(one.now)
        one.turn(1, "copy")
        one.assume("p by 2 0")
        for _ in range(3):
            one.undo()
        self.refuses(one, NothingToUndo, one.undo)

    def test_nothing_to_undo(self):
        one = bench()
        self.refuses(one, NothingToUndo, one.undo)
        one.turn(1, "copy")
        one.undo()
        self.refuses(one, NothingToUndo, one.undo)
        one.turn(1, "copy")
        one.undo()

    def test_errors_are_no_changes(self):
        one = bench()
        one.assume("p to q from 6")
        self.refuses(one, Clash, one.assume, "p to q is 0")
        self.refuses(one, NoLine, one.drop, 7, line=7)
        self.refuses(one, NoFact, one.release, 4, index=4)
        one.used()
        one.undo()
        self.at(one, COPY)
        self.refuses(one, NothingToUndo, one.undo)

    def test_undo_is_no_change(self):
        one = bench()
        one.assume("p to q from 6")
        one.turn(1, "up")
        one.undo()
        one.undo()
        self.at(one, COPY)
        self.refuses(one, NothingToUndo, one.undo)


class Attempts(Benches):
    def test_what_the_action_returns(self):
        one = bench()
        for told in (None, 7, [1], one):
            self.assertIs(one.attempt(lambda got: told), told)
        got = []
        one.attempt(got.append)
        self.assertIs(got[0], one)
        self.refuses(one, NothingToUndo, one.undo)

    def test_changes_stay_and_are_undone_one_by_one(self):
        one = bench()

        def action(got):
            got.assume("p to q from 6")
            got.turn(1, "up")
            return got.used()

        self.assertEqual(one.attempt(action), [[0]])
        self.at(one, UP, "p to q from 6")
        one.undo()
        self.at(one, COPY, "p to q from 6")
        one.undo()
        self.refuses(one, NothingToUndo, one.undo)

    def test_errors_of_any_class(self):
        class Odd(BaseException):
            pass

        for kind in (Odd, KeyboardInterrupt, SystemExit, GeneratorExit, ValueError, StopIteration, KeyError, Clash):
            one = bench()
            one.assume("p to q from 6")
            before = self.state(one)
            error = kind()

            def action(got):
                got.turn(1, "up")
                got.assume("p by 2 0")
                raise error

            with self.assertRaises(kind) as caught:
                one.attempt(action)
            self.assertIs(caught.exception, error)
            self.assertEqual(self.state(one), before)
            one.undo()
            self.at(one, COPY)
            self.refuses(one, NothingToUndo, one.undo)

    def test_an_error_of_a_change(self):
        one = bench()

        def action(got):
            got.assume("p to q from 2")
            got.turn(1, "up")

        self.refuses(one, Parted, one.attempt, action, places=(0, 2))
        self.refuses(one, NothingToUndo, one.undo)

    def test_an_error_that_the_action_catches(self):
        one = bench()

        def action(got):
            got.assume("p to q from 2")
            try:
                got.turn(1, "up")
            except Parted as caught:
                return caught.places

        self.assertEqual(one.attempt(action), (0, 2))
        self.at(one, COPY, "p to q from 2")

    def test_undone_changes_come_back(self):
        one = bench()
        one.assume("p to q from 6")
        one.turn(1, "up")
        before = self.state(one)

        def action(got):
            got.undo()
            got.undo()
            got.assume("p to q upto 0")
            got.undo()
            got.undo()

        self.refuses(one, NothingToUndo, one.attempt, action)
        self.assertEqual(self.state(one), before)
        one.undo()
        self.at(one, COPY, "p to q from 6")
        one.undo()
        self.at(one, COPY)
        self.refuses(one, NothingToUndo, one.undo)

    def test_attempts_within_attempts(self):
        one = bench()
        seen = []

        def inner(got):
            got.assume("p by 2 0")
            seen.append(got.facts.text)
            raise KeyError("inner")

        def outer(got):
            got.assume("p to q from 6")
            try:
                got.attempt(inner)
            except KeyError:
                seen.append(got.facts.text)
            got.turn(1, "up")
            got.attempt(lambda more: more.assume("q by 2 0"))
            return "told"

        self.assertEqual(one.attempt(outer), "told")
        self.assertEqual(seen, ["p to q from 6\np by 2 0", "p to q from 6"])
        self.at(one, UP, "p to q from 6\nq by 2 0")
        for _ in range(3):
            one.undo()
        self.refuses(one, NothingToUndo, one.undo)

    def test_an_inner_attempt_that_stays_in_an_outer_one_that_fails(self):
        one = bench()
        one.assume("p to q from 6")

        def outer(got):
            got.attempt(lambda more: more.turn(1, "up"))
            got.undo()
            got.undo()
            got.attempt(lambda more: more.assume("p by 2 0"))
            raise ValueError("outer")

        self.refuses(one, ValueError, one.attempt, outer)
        self.at(one, COPY, "p to q from 6")
        one.undo()
        self.refuses(one, NothingToUndo, one.undo)


if __name__ == "__main__":
    unittest.main()
