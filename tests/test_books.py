"""Points [17] to [19], calls in [7], [10] and [12], and the interface of partlymet/books.py."""

import types
import unittest

from partlymet.books import Book, Function, broken_calls, kept_needs, left_out, may_replace
from partlymet.compare import alike, bad_distances, parting
from partlymet.contracts import Contract
from partlymet.errors import BadName, BadPointers, BadProgram, HasRegisters, NoFunction, OtherPointers, Taken, TooMany
from partlymet.lines import copy_ways, idle_lines, may_swap, sources, thinned
from partlymet.needs import guarded, needs
from partlymet.programs import Program
from plain_reading import RESERVED
from support import Asking

TWO = ["p", "q"]
AB = ["a", "b"]
HUGE = 10 ** 999
NOWHERE = "p to q is 0\np to q is 1"
BAD_NAMES = ("", "A", "x1", "abcdefghijklm", "x-y", "#1", "a b", "a\n", "a\nb", *RESERVED)


def facts(text, pointers=("p", "q")):
    return Contract(list(pointers), text)


def function(text, needed="", pointers=("a", "b"), book=None):
    program = Program(list(pointers), text) if book is None else book.read(list(pointers), text)
    return Function(program, Contract(list(pointers), needed))


def book_of(**functions):
    """A book: each function is its text, or a text, what it needs, and perhaps its pointers."""
    book = Book()
    for name, row in functions.items():
        row = (row,) if isinstance(row, str) else row
        book[name] = function(*row, book=book)
    return book


def ladder(height):
    """A book with functions `a`, `b` .. that are one, two .. deep, and the next function."""
    book = book_of(a="copy 1 from a to b")
    for at in range(1, height):
        book["abcdefgh"[at]] = function(f"call {'abcdefgh'[at - 1]} a b", book=book)
    return book


class Functions(Asking):
    def test_attributes(self):
        program, needed = Program(AB, "copy 1 from a to b"), Contract(AB, "a to b from 1")
        one = Function(program, needed)
        self.assertIs(one.program, program)
        self.assertIs(one.needed, needed)
        self.is_tuple(one.pointers, ("a", "b"))

    def test_other_pointers_come_first(self):
        for text in ("", "input x 1"):
            for names in (["a"], ["b", "a"], ["a", "b", "c"]):
                self.fails(OtherPointers, Function, Program(AB, text), Contract(names, ""))

    def test_registers(self):
        for text in ("input x 1", "set x 1\ngive x"):
            self.fails(HasRegisters, Function, Program(AB, text), Contract(AB, ""))
        self.assertEqual(Function(Program(AB, "set x 1"), Contract(AB, "")).program.text, "set x 1")


class Books(Asking):
    def test_a_book_without_functions(self):
        book = Book()
        self.assertEqual([len(book), book.names(), "f" in book, "" in book], [0, [], False, False])

    def test_functions_under_names(self):
        book, one, two = Book(), function("copy 1 from a to b"), function("")
        book["one"] = one
        book["abcdefghijkl"] = two
        book["again"] = one
        self.assertIs(book["one"], one)
        self.assertIs(book["abcdefghijkl"], two)
        self.assertIs(book["again"], one)
        self.assertEqual(["one" in book, "two" in book, "" in book, "One" in book], [True, False, False, False])
        self.assertEqual(len(book), 3)
        self.is_list(book.names(), ["one", "abcdefghijkl", "again"])

    def test_names_are_a_new_list(self):
        book = book_of(f="", g="")
        book.names().clear()
        self.is_list(book.names(), ["f", "g"])

    def test_bad_names(self):
        book = book_of(f="")
        for name in BAD_NAMES:
            self.fails(BadName, book.__setitem__, name, function(""), name=name)
        self.assertEqual([len(book), book.names()], [1, ["f"]])

    def test_taken(self):
        book = book_of(f="")
        before = book["f"]
        self.fails(Taken, book.__setitem__, "f", function("step a 1"), name="f")
        self.fails(Taken, book.__setitem__, "f", before, name="f")
        self.assertIs(book["f"], before)
        self.assertEqual(len(book), 1)

    def test_no_function(self):
        book = book_of(f="")
        for name in ("g", "", "input", "f ", "F"):
            self.fails(NoFunction, book.__getitem__, name, name=name)

    def test_five_deep_and_six(self):
        book = ladder(5)
        self.assertEqual(book.names(), ["a", "b", "c", "d", "e"])
        program = book.read(TWO, "call e p q")
        self.assertEqual(program([3, 7]).changed(), {7: "@3"})
        for text in (
            "call e a b", "call a a b\ncall e a b", "call e a b\ncall a a b", "times 2\ncall e a b\nend",
            "when a by 2 0\nelse\ncall e b a\nend", "times 1\nwhen a by 2 0\ncall a a b\ncall e a b\nend\nend",
        ):
            deep = function(text, book=book)
            self.fails(TooMany, book.__setitem__, "f", deep, limit=5)
            self.fails(Taken, book.__setitem__, "a", deep, name="a")
            self.fails(BadName, book.__setitem__, "fill", deep, name="fill")
        self.assertEqual([len(book), "f" in book, book.names()], [5, False, ["a", "b", "c", "d", "e"]])
        book["f"] = function("call d a b\ncall a a b\ntimes 2\ncall d b a\nend", book=book)
        self.fails(TooMany, book.__setitem__, "g", function("call f a b", book=book), limit=5)

    def test_books_are_apart(self):
        one, two = book_of(f=""), book_of(g="")
        self.assertEqual([one.names(), two.names(), "g" in one], [["f"], ["g"], False])


class Reading(Asking):
    def setUp(self):
        self.book = book_of(one=("step a 1", "", ["a"]), two="copy 1 from a to b", three=("", "", ["a", "b", "c"]))

    def right(self, text, pointers=("p", "q")):
        with self.subTest(text):
            program = self.book.read(list(pointers), text)
            self.assertIsInstance(program, Program)
            self.assertEqual(program.text, text)
            self.is_tuple(program.pointers, tuple(pointers))

    def wrong(self, text, line=None, pointers=("p", "q")):
        with self.subTest(text):
            self.fails(BadProgram, self.book.read, list(pointers), text, line=line or text.count("\n") + 1)

    def test_calls(self):
        self.right("call one p")
        self.right("call two p q")
        self.right("call two q p")
        self.right("call two p p")
        self.right("call three p q p+30")
        self.right("call three q-30 q+30 q")
        self.right("call one p", pointers=["p"])
        self.right("input x 1\ncall one p\ntimes 2\ncall one q\nend\nwhen p by 2 0\ncall one p\nelse\ncall one q\nend\ngive x")

    def test_texts_without_calls(self):
        self.right("")
        self.right("input x 1\nstore x p\ngive x")
        self.wrong("times 2", 2)

    def test_wrong_calls(self):
        for line in (
            "call", "call one", "call two p", "call one p q", "call two p q p", "call four p", "call p", "call one one",
            "call one p+31", "call one p-0", "call one p+01", "call one r", "call one ", "call  one p", "call one p ",
            "call one a", "call One p", "call two p  q", "call two p to q", "call two p q+", "Call one p", "call input p",
            "call call p", "call one 1", "call",
        ):
            self.wrong(line)
            self.wrong("step p 1\n" + line)
            self.wrong("step p 1\n" + line + "\ncall four p", 2)

    def test_where_calls_stand(self):
        self.wrong("call one p\ninput x 1")
        self.wrong("set x 1\ngive x\ncall one p")
        self.right("\n".join(["call one p"] * 40))
        self.wrong("\n".join(["call one p"] * 41))

    def test_calls_set_no_registers(self):
        book = book_of(f="load x 2 a")
        self.fails(BadProgram, book.read, TWO, "call f p q\nstore x p", line=2)
        self.assertEqual(book.read(TWO, "set x 1\ncall f p q\nstore x p").text.count("\n"), 2)

    def test_bad_pointers_come_first(self):
        self.fails(BadPointers, self.book.read, [], "call", index=0)
        self.fails(BadPointers, self.book.read, ["p", "p"], "call", index=1)
        self.fails(BadPointers, self.book.read, ["p", "call"], "", index=1)
        self.fails(BadPointers, self.book.read, ["p", "q", "r", "s"], "", index=3)

    def test_functions_that_the_book_has_then(self):
        book = Book()
        self.fails(BadProgram, book.read, TWO, "call f p q", line=1)
        book["f"] = function("copy 1 from a to b")
        program = book.read(TWO, "call f p q")
        book["g"] = function("")
        self.assertEqual(program([0, 5]).changed(), {5: "@0"})
        self.assertEqual(book.read(TWO, "call g p q").text, "call g p q")

    def test_programs_without_a_book_have_no_calls(self):
        self.fails(BadProgram, Program, TWO, "call two p q", line=1)

    def test_later_changes_of_the_pointers_have_no_effect(self):
        names = ["p", "q"]
        program = self.book.read(names, "call two p q")
        names.reverse()
        self.is_tuple(program.pointers, ("p", "q"))

    def test_equal_programs(self):
        self.assertTrue(self.book.read(TWO, "call two p q") == self.book.read(TWO, "call two p q"))
        self.assertFalse(self.book.read(TWO, "call two p q") == self.book.read(TWO, "call two q p"))
        self.assertTrue(self.book.read(TWO, "step p 1") == Program(TWO, "step p 1"))


class Runs(Asking):
    def changed(self, book, text, places, expected, pointers=("p", "q")):
        with self.subTest((text, places)):
            outcome = book.read(list(pointers), text).run(places)
            self.assertEqual(outcome.changed(), expected)

    def test_pointers_begin_at_the_cells_of_the_spots(self):
        book = book_of(f="copy 2 from a to b")
        self.changed(book, "call f p q", [0, 5], {5: "@0", 6: "@1"})
        self.changed(book, "call f q p", [0, 5], {0: "@5", 1: "@6"})
        self.changed(book, "call f p+3 q-9", [0, 5], {-4: "@3", -3: "@4"})
        self.changed(book, "call f p p+1", [4, 0], {5: "@4", 6: "@5"})
        self.changed(book, "call f p p", [4, 0], {})
        self.changed(book, "step p 7\ncall f p+1 q", [0, 5], {5: "@8", 6: "@9"})
        self.changed(book, "call f p q", [HUGE, -HUGE], {-HUGE: f"@{HUGE}", 1 - HUGE: f"@{HUGE + 1}"})

    def test_steps_do_not_move_the_pointers_of_the_caller(self):
        book = book_of(f="step a 5\nstep b -5\ncopy 1 from a to b")
        self.changed(book, "call f p q\ncopy 1 from p to q", [0, 20], {15: "@5", 20: "@0"})
        self.changed(book, "call f p q\ncall f p q", [0, 20], {15: "@5"})

    def test_registers_are_its_own(self):
        book = book_of(f="set x 1 2\nstore x a")
        self.changed(book, "set x 7\ncall f p q\nstore x q", [0, 20], {0: "#1", 1: "#2", 20: "#7"})
        book["g"] = function("set x 3\ncall f a b\neach h x\nstore x b", book=book)
        self.changed(book, "load x 4 p\ncall g p q\nstore x p+9", [0, 20],
                     {0: "#1", 1: "#2", 20: "h #3", 9: "@0", 10: "@1", 11: "@2", 12: "@3"})
        program = book.read(TWO, "input x 1\ncall g p q\ngive x")
        self.is_tuple(program([0, 5]).given, (("x.0",),))

    def test_on_the_present_memory(self):
        book = book_of(f="load x 1 a\neach f x\nstore x b")
        self.changed(book, "set y 4\nstore y p\ncall f p q\nload z 1 q\nstore z p+1", [0, 5], {0: "#4", 5: "f #4", 1: "f #4"})
        self.changed(book, "times 3\ncall f p p\nend", [0, 5], {0: "f f f @0"})

    def test_in_times_and_when(self):
        book = book_of(f="copy 1 from a to b")
        self.changed(book, "times 3\ncall f p q\nstep p 1\nstep q 2\nend", [0, 10], {10: "@0", 12: "@1", 14: "@2"})
        text = "when p by 2 0\ncall f p q\nelse\ncall f q p\nend"
        self.changed(book, text, [0, 5], {5: "@0"})
        self.changed(book, text, [1, 5], {1: "@5"})

    def test_tests_ask_for_the_pointers_of_the_function(self):
        book = book_of(f="step a 1\nset x 1\nwhen a to b is 0\nstore x a\nelse\nstore x b\nend\nwhen b by 2 1\nstore x a+9\nend")
        self.changed(book, "call f p p+1", [4, 0], {5: "#1", 14: "#1"})
        self.changed(book, "call f q p", [3, 0], {3: "#1", 10: "#1"})
        self.changed(book, "call f q p", [4, 0], {4: "#1"})

    def test_the_contract_is_not_looked_at(self):
        book = book_of(f=("copy 1 from a to b", "a to b is 0\na to b is 1"))
        self.changed(book, "call f p q", [0, 5], {5: "@0"})

    def test_calls_of_functions_that_call_functions(self):
        book = book_of(f=("load x 1 b\neach f x\nstore x b+1\nstep b 1", "", ["b"]))
        book["g"] = function("call f b\nstep b 1\ncall f b+1\ncall f a", book=book)
        book["h"] = function("times 2\ncall g q p-1\nstep p 1\nend", "", TWO, book=book)
        program = book.read(["x", "y"], "call h x+1 y")
        # The calls of g are at (y, x) and (y, x + 1): of f at x, x + 2, y; then x + 1, x + 3, y.
        self.assertEqual(program([0, 9]).changed(), {
            1: "f @0", 3: "f @2", 10: "f @9", 2: "f f @0", 4: "f f @2",
        })

    def test_two_names_of_one_function(self):
        book, one = Book(), function("copy 1 from a to b")
        book["f"] = one
        book["g"] = one
        self.changed(book, "call f p q\ncall g q p+1", [0, 5], {5: "@0", 1: "@0"})

    def test_steps(self):
        book = book_of(f="set x 1\nstep a 3\nstore x a\nstore x b+2\nload y 1 a\nfill 2 x b-4")
        program = book.read(TWO, "set x 7 8\nstep q 1\ncall f p q\ntimes 2\ncall f q p\nend")
        steps = program.steps([0, 9])
        self.assertIsInstance(steps, types.GeneratorType)
        rows = list(steps)
        first = (3, (0, 10), [(3, "#1"), (6, "#1"), (7, "#1"), (12, "#1")])
        later = (5, (0, 10), [(-4, "#1"), (-3, "#1"), (2, "#1"), (13, "#1")])
        self.assertEqual(rows, [(1, (0, 9), []), (2, (0, 10), []), first, later, later])
        self.is_tuple(rows[2], first)
        self.is_list(rows[2][2], first[2])

    def test_steps_tell_what_cells_hold_behind_the_call(self):
        book = book_of(f="set x 1\nset y 2\nstore x a\nstore y a")
        book["g"] = function("call f b a\ncall f a b\nload z 1 a\neach h z\nstore z b", book=book)
        rows = list(book.read(TWO, "call g p q").steps([0, 5]))
        self.assertEqual(rows, [(1, (0, 5), [(0, "#2"), (5, "h #2")])])

    def test_calls_that_write_nothing_are_deeds(self):
        book = book_of(f="load x 8 a\nstep a 3", e="")
        self.assertEqual(list(book.read(TWO, "call f p q\ncall e q p").steps([0, 5])), [(1, (0, 5), []), (2, (0, 5), [])])

    def test_reads_and_writes(self):
        book = book_of(f="copy 2 from a to b\nload x 1 b+5\nstep a 9")
        book["g"] = function("call f a b\ncall f b+20 a+20\nwhen a to b is 0\ncopy 1 from a+30 to b+30\nend", book=book)
        program = book.read(TWO, "call g p q\nload y 1 p-1\nstore y q-1")
        self.is_list(program.reads([0, 100]), [-1, 0, 1, 25, 105, 120, 121])
        self.is_list(program.writes([0, 100]), [20, 21, 99, 100, 101])
        self.assertEqual(30 in program.writes([0, 0]), True)

    def test_the_function_stays(self):
        book = book_of(f="step a 1\nset x 1\nstore x a")
        program = book.read(TWO, "call f p q")
        self.assertEqual([program([0, 5]).changed() for _ in range(3)], [{1: "#1"}] * 3)
        self.assertEqual(book["f"].program([0, 5]).changed(), {1: "#1"})

    def test_put_together(self):
        book = book_of(f="load x 1 a\neach f x\nstore x b")
        one, two = book.read(TWO, "step p 1\ncall f p q"), Program(TWO, "copy 1 from q to p")
        self.assertEqual((one + two)([0, 5]).changed(), {5: "f @1", 0: "f @1"})
        self.assertEqual((one * 2)([0, 0]).changed(), {0: "f @1"})
        program = guarded(one + two, two, facts("p to q is 0\np to q is 1"))
        self.assertEqual(program([0, 5]).changed(), {5: "f @1", 0: "f @1"})
        self.is_list(program.reads([0, 5]), [1, 5])

    def test_two_thousand_lines(self):
        book = book_of(f=("load x 1 a\neach f x\nstore x a\nstep a 1\ntimes 5\nfill 1 x a\nend", "", ["a"]))
        book["g"] = function("times 5\ntimes 5\ncall f a\nend\nend", "", ["a"], book=book)
        program = book.read(["p"], "times 4\ncall g p\nend")
        self.assertEqual(program([0]).changed(), {0: "f " * 100 + "@0", 1: "f " * 100 + "@0"})


class Measures(Asking):
    def told(self, book, text, reach, far=0, modulus=1):
        with self.subTest(text):
            program = book.read(TWO, text)
            self.is_tuple(program.reach, reach)
            self.assertEqual([program.far, program.modulus], [far, modulus])

    def test_offsets_at_spots(self):
        book = book_of(f="copy 4 from a-2 to b+7")
        self.assertEqual(book["f"].program.reach, (-2, 11))
        self.told(book, "call f p q", (-2, 11))
        self.told(book, "call f p+1 q+30", (-1, 41))
        self.told(book, "call f p-30 q", (-32, 11))
        self.told(book, "call f q+10 p+10", (0, 21))
        self.told(book, "step p 3\ncall f q p", (-2, 14))
        self.told(book, "step q 3\ncall f q p\nstep q -9", (-6, 11))
        self.told(book, "times 3\ncall f p+2 q-20\nstep q -5\nend", (-30, 4))

    def test_each_pointer_of_the_function_has_its_own_offsets(self):
        book = book_of(f="step a 20\nload x 1 b-5")
        self.told(book, "call f p q-30", (-35, 20))
        self.told(book, "call f p-30 q", (-30, 0))
        self.told(book, "call f p+30 q+30", (0, 50))
        self.told(book, "call f p-30 p+30", (-30, 30))

    def test_through_other_functions(self):
        book = book_of(f="copy 4 from a-2 to b+7")
        book["g"] = function("step b 5\ncall f b a-20", book=book)
        self.assertEqual(book["g"].program.reach, (-20, 7))
        self.told(book, "call g p+1 q", (-19, 7))
        self.told(book, "call g q q-10", (-20, 0))

    def test_tests_of_all_functions_and_their_contracts(self):
        book = book_of(
            f=("when a to b from 9\nend", "a by 2 1\na to b upto -7"),
            g=("when a by 4 0\nend", "apart a 9 b-3 8"),
            free="",
        )
        self.told(book, "call free p q", (0, 0))
        self.told(book, "call f p q", (0, 0), 9, 2)
        self.told(book, "call g p q", (0, 0), 20, 4)
        self.told(book, "call g p q\nwhen p to q is 40\nend\nwhen p by 8 1\nend", (0, 0), 40, 8)
        book["h"] = function("when a by 2 0\ncall f a b\nend", "a to b is -8", book=book)
        self.assertEqual([book["h"].program.far, book["h"].program.modulus], [9, 2])
        self.told(book, "call h p q", (0, 0), 9, 2)
        book["i"] = function("times 2\ncall g a b\nend", "a to b is -30\nb by 8 0", book=book)
        self.assertEqual([book["i"].program.far, book["i"].program.modulus], [20, 4])
        self.told(book, "when p to q is 1\ncall i p q\nend", (0, 0), 30, 8)

    def test_only_called_functions_count(self):
        book = book_of(f=("load x 8 a+30", "a to b is 40\na by 8 0"), g="")
        self.told(book, "call g p q", (0, 0))
        self.assertEqual([book["f"].program.far, book["f"].program.modulus], [0, 1])

    def test_functions_with_calls_of_their_own_pointers(self):
        book = book_of(f=("load x 1 a+4", "", ["a"]))
        book["g"] = function("step b 10\ncall f b", book=book)
        self.told(book, "call g p q", (0, 15))
        self.told(book, "call g p-20 q", (-20, 15))


class Questions(Asking):
    def test_parting_with_calls(self):
        book = book_of(move="copy 3 from a to b", climb="up 3 from a to b")
        one, two = book.read(TWO, "call move p q"), book.read(TWO, "call climb p q")
        self.is_tuple(parting(one, two), (0, 1))
        self.assertTrue(alike(one, Program(TWO, "copy 3 from p to q")))
        self.is_list(bad_distances(one, two, -9, 10), [1, 2])
        self.assertEqual(needs(one, two, facts("p to q upto 0\np to q from 3")), [[0], [1]])

    def test_a_test_within_a_function_counts(self):
        book = book_of(f="set x 1\nwhen a to b from 33\nwhen b by 8 7\nstore x a\nend\nend")
        book["g"] = function("call f b a", book=book)
        self.is_tuple(parting(book.read(TWO, "call g p q"), Program(TWO, "")), (39, 6))

    def test_calls_as_lines(self):
        book = book_of(f="set x 1\nstore x a", g="load x 1 a\nstore x a", e="step a 1")
        text = "call f p q\ncall g p q\ncall e p q\ncall f p q\nload y 4 p-1\ncopy 1 from q to q+1"
        program = book.read(TWO, text)
        self.is_list(idle_lines(program), [1, 2, 3, 4])
        gone, left = thinned(program)
        self.is_list(gone, [2, 3, 4])
        self.assertEqual(left.text, "call f p q\nload y 4 p-1\ncopy 1 from q to q+1")
        self.assertEqual(left([0, 50]).changed(), {0: "#1", 51: "@50"})
        self.is_list(sources(program, 5), [0, 4])
        self.is_list(sources(program, 6), [0, 4])
        self.is_list(sources(program, 6, under=facts("p to q from 1")), [0])
        self.assertIs(may_swap(program, 1), True)
        self.assertIs(may_swap(program, 4), True)
        self.assertIs(may_swap(program, 5), True)
        self.is_list(copy_ways(program, 6), ["copy", "down", "up"])

    def test_a_call_writes_all_cells_that_are_written_within_it(self):
        book = book_of(f="copy 2 from a to b\nset x 1\nstore x a+5")
        book["g"] = function("call f b a+1", book=book)
        program = book.read(TWO, "set x 3\nstore x p\ncall g p q\nload y 8 p\nload z 8 q")
        self.is_list(sources(program, 4, under=facts("p to q from 30")), [0, 2, 3])
        self.is_list(sources(program, 5, under=facts("p to q from 30")), [0, 3])
        self.is_list(sources(program, 4, under=facts("p to q is 0")), [0, 2, 3])

    def test_swaps_with_calls(self):
        book = book_of(f="copy 1 from a to b")
        program = book.read(TWO, "call f p q\ncall f q p\nload x 1 p\ncall f p q\ngive x")
        self.assertIs(may_swap(program, 1), False)
        self.assertIs(may_swap(program, 1, under=facts("p to q is 0")), True)
        self.assertIs(may_swap(program, 2), True)
        self.assertIs(may_swap(program, 3), True)


class BrokenCalls(Asking):
    def told(self, book, text, expected, under=None, pointers=("p", "q")):
        with self.subTest((text, under)):
            program = book.read(list(pointers), text)
            found = broken_calls(program, under=None if under is None else facts(under, pointers))
            self.is_list(found, expected)
            for row in found:
                self.assertIs(type(row), tuple)
                self.assertIs(type(row[2]), tuple)

    def test_each_line_with_the_nearest_places(self):
        book = book_of(f=("", "a to b from 2\na by 2 0\na to b upto 6"))
        self.told(book, "call f p q", [(1, 0, (0, 0)), (1, 1, (1, 1)), (1, 2, (0, 7))])
        self.told(book, "call f p q", [(1, 1, (1, 3)), (1, 2, (0, 7))], "p to q from 2")
        self.told(book, "call f p q", [], "p to q is 4\np by 4 2")
        self.told(book, "call f q+1 p", [(1, 0, (0, 0)), (1, 1, (0, 0)), (1, 2, (8, 0))])

    def test_each_call_by_itself(self):
        book = book_of(f=("", "a to b from 0"))
        self.told(book, "call f p q\ncall f q p\ncall f p p", [(1, 0, (1, 0)), (2, 0, (0, 1))])
        self.told(book, "call f p q+1\ncall f q-3 p", [(1, 0, (2, 0)), (2, 0, (0, 4))])

    def test_the_same_pointer_at_several_spots(self):
        book = book_of(f=("", "a to b from 2\nb by 2 0"))
        self.told(book, "call f p p", [(1, 0, (0,)), (1, 1, (1,))], pointers=["p"])
        self.told(book, "call f p p+1", [(1, 0, (0,)), (1, 1, (0,))], pointers=["p"])
        self.told(book, "call f p-1 p+1", [(1, 1, (0,))], pointers=["p"])
        self.told(book, "call f p-1 p+1", [], "p by 4 3", pointers=["p"])

    def test_at_some_time(self):
        book = book_of(f=("", "a by 2 0\na by 4 0", ["a"]))
        self.told(book, "times 3\ncall f p\nstep p 2\nend", [(2, 0, (1,)), (2, 1, (0,))], pointers=["p"])
        self.told(book, "times 3\ncall f p\nstep p 2\nend", [(2, 1, (0,))], "p by 4 0", pointers=["p"])
        self.told(book, "times 1\ncall f p\nstep p 2\nend", [], "p by 4 0", pointers=["p"])

    def test_only_calls_that_are_done(self):
        book = book_of(f=("", "a to b from 2"))
        self.told(book, "when p to q from 2\ncall f p q\nelse\ncall f q p\nend", [(4, 0, (0, 0))])
        self.told(book, "when p to q from 1\ncall f p q\nend", [(2, 0, (0, 1))])
        self.told(book, "when p to q from 2\ncall f p q\nend", [])
        self.told(book, "when p to q upto 1\nelse\ncall f p q\nend", [])

    def test_far_needs_count_for_the_cases(self):
        book = book_of(f=("", "a to b upto 8"))
        self.told(book, "call f p q", [(1, 0, (0, 9))])
        book = book_of(f=("", "apart a 3 b-2 2"))
        self.told(book, "call f p q", [(1, 0, (0, 1))])

    def test_the_run_goes_on(self):
        book = book_of(f=("copy 1 from a to b", "a to b is 0\na to b is 1"))
        self.told(book, "call f p q\ncall f q p", [
            (1, 0, (0, 1)), (1, 1, (0, 0)), (2, 0, (0, 1)), (2, 1, (0, 0)),
        ])

    def test_only_calls_of_the_program_itself(self):
        book = book_of(f=("", "a to b from 2"))
        book["g"] = function("call f a b\ncall f b a", book=book)
        self.told(book, "call g p q", [])
        self.told(book, "step p 1\ncall g p q\ncall f p q", [(3, 0, (0, 0))])

    def test_no_calls_and_no_places(self):
        book = book_of(f=("", "a to b from 2"))
        self.told(book, "copy 1 from p to q", [])
        self.told(book, "call f p q", [], NOWHERE)
        self.told(book, "", [])

    def test_more_than_twelve_lines(self):
        many = facts("\n".join(f"a to b from {k}" for k in range(-12, 0)), AB) & facts("a to b upto 3\na to b from 1", AB)
        book = Book()
        book["f"] = Function(Program(AB, ""), many)
        self.assertEqual(len(many), 14)
        self.told(book, "call f p q", [(1, 12, (0, 4)), (1, 13, (0, 0))], "p to q from -1")

    def test_other_pointers(self):
        book = book_of(f="")
        for text in ("call f p q", ""):
            for names in (["p"], ["q", "p"], AB):
                self.fails(OtherPointers, broken_calls, book.read(TWO, text), under=facts("", names))


class Replacing(Asking):
    def told(self, f, g, expected):
        with self.subTest((f.program.text, f.needed.text, g.program.text, g.needed.text)):
            self.assertIs(may_replace(f, g), expected)

    def test_weaker_needs_and_the_same_outcomes(self):
        f = function("copy 3 from a to b", "a to b upto 0")
        self.told(f, f, True)
        self.told(f, function("up 3 from a to b", "a to b upto 0"), True)
        self.told(f, function("up 3 from a to b", ""), True)
        self.told(f, function("up 3 from a to b", "a to b upto 1"), True)
        self.told(f, function("up 3 from a to b", "a to b upto -1"), False)
        self.told(f, function("down 3 from a to b", ""), False)
        self.told(function("up 3 from a to b", ""), f, False)
        self.told(function("copy 3 from a to b", ""), function("up 3 from a to b", ""), False)

    def test_pointers_in_order(self):
        f = function("copy 3 from a to b", "a to b upto 0\na by 4 2")
        self.told(f, function("up 3 from x to y", "x to y upto 3\nx by 2 0", ["x", "y"]), True)
        self.told(f, function("up 3 from b to a", "b to a upto 3", ["b", "a"]), True)
        self.told(f, function("up 3 from b to a", "b to a upto 3"), False)
        self.told(f, function("up 3 from x to y", "x to y upto 3\ny by 2 0", ["x", "y"]), False)
        self.told(function("copy 1 from a to b"), function("copy 1 from a to b", "", ["b", "a"]), False)

    def test_registers_like_pointers(self):
        f = function("load x 1 a\nstore x b")
        self.told(f, function("load a 1 x\nstore a y", "", ["x", "y"]), True)
        self.told(f, function("load y 1 x\nstore y y", "", ["x", "y"]), True)

    def test_another_number_of_pointers(self):
        f = function("")
        self.told(f, function("", "", ["a"]), False)
        self.told(f, function("", "", ["a", "b", "c"]), False)
        self.told(function("", "", ["a"]), function("step x 1", "", ["x"]), True)

    def test_needs_that_no_places_keep(self):
        nowhere = function("copy 1 from a to b", "a to b is 0\na to b is 1")
        self.told(nowhere, function("up 9 from a to b", "a to b is 7"), True)
        self.told(function(""), function("", "a to b is 0\na to b is 1"), False)

    def test_far_needs(self):
        self.told(function("", "a to b from 40"), function("", "a to b from 39"), True)
        self.told(function("", "a to b from 39"), function("", "a to b from 40"), False)

    def test_functions_with_calls(self):
        book = book_of(f="copy 3 from a to b", g=("up 3 from a to b", "a to b is 40"))
        one = function("call f a b", "a to b from 3", book=book)
        two = function("call g x y", "", ["x", "y"], book=book)
        self.told(one, two, True)
        self.told(two, one, False)
        self.told(book["f"], one, False)
        self.told(one, book["f"], True)


class KeptNeeds(Asking):
    def kept(self, book, roots, expected, many=None):
        """Roots are texts, or triples of pointers, text and contract."""
        rows = [(TWO, root, "") if isinstance(root, str) else root for root in roots]
        asked = [(book.read(names, text), Contract(names, under)) for names, text, under in rows]
        with self.subTest(rows):
            found = kept_needs(book, asked)
            self.assertIs(type(found), dict)
            self.assertEqual(found, expected)
            for name in found:
                self.assertIs(type(found[name]), list)
            told = left_out(book, asked)
            self.assertIs(type(told), list)
            gone = [(name, index) for name, index, _, _, _ in told]
            self.assertEqual(len(gone), len(set(gone)))
            for name in book.names():
                lost = [index for one, index in gone if one == name]
                self.assertEqual(sorted(lost + found[name]), list(range(len(book[name].needed))))
        return told

    def test_calls_of_roots(self):
        book = book_of(f=("", "a to b from 2\na to b upto 9"))
        self.kept(book, ["call f p q"], {"f": []})
        self.kept(book, ["when p to q from 2\ncall f p q\nend"], {"f": [0]})
        self.kept(book, [(TWO, "call f p q", "p to q is 2")], {"f": [0, 1]})
        self.kept(book, [(TWO, "call f p q", "p to q is 2"), (TWO, "call f q p", "p to q upto 1")], {"f": []})
        self.kept(book, [(TWO, "call f p q", "p to q is 2"), (TWO, "call f q p", "p to q is -10")], {"f": [0]})

    def test_functions_that_are_never_called(self):
        book = book_of(f=("", "a to b from 2\na to b upto 9"), g="")
        self.kept(book, [], {"f": [0, 1], "g": []})
        self.kept(book, ["call g p q"], {"f": [0, 1], "g": []})
        self.kept(Book(), [], {})
        self.kept(book, [(TWO, "call f p q", NOWHERE)], {"f": [0, 1], "g": []})

    def test_calls_in_functions_that_no_root_calls(self):
        book = book_of(f=("", "a to b from 2\na by 2 0"))
        book["g"] = function("call f a b", "a to b from 3", book=book)
        told = self.kept(book, [], {"f": [0], "g": [0]})
        self.assertEqual(told, [("f", 1, "g", 1, (1, 4))])
        self.kept(book, ["call g p q"], {"f": [], "g": []})

    def test_what_is_left_out_leaves_out_more(self):
        book = book_of(f=("", "a to b from 1"))
        book["g"] = function("call f a b", "a to b from 2", book=book)
        book["h"] = function("call g a b", "a to b from 3", book=book)
        self.kept(book, [], {"f": [0], "g": [0], "h": [0]})
        told = self.kept(book, ["call h p q"], {"f": [], "g": [], "h": []})
        self.assertEqual(told[0][:4], ("h", 0, 0, 1))
        self.assertEqual([row[:4] for row in told[1:]], [("g", 0, "h", 1), ("f", 0, "g", 1)])
        self.kept(book, [(TWO, "call h p q", "p to q from 3")], {"f": [0], "g": [0], "h": [0]})
        self.kept(book, [(TWO, "call g p q", "p to q from 1")], {"f": [], "g": [], "h": [0]})

    def test_kept_lines_may_hold_each_other(self):
        # What f needs follows from both lines of g together; one of them is lost by the root.
        book = book_of(f=("", "a to b is 4\na by 2 0"))
        book["g"] = function("call f a b", "a to b from 4\na to b upto 4\na by 4 2", book=book)
        told = self.kept(book, [(TWO, "call g p q", "p to q from 4")], {"f": [], "g": [0]})
        self.assertEqual({row[:2] for row in told}, {("g", 1), ("g", 2), ("f", 0), ("f", 1)})
        self.kept(book, [(TWO, "call g p q", "p to q is 4")], {"f": [0], "g": [0, 1]})

    def test_reasons(self):
        book = book_of(f=("", "a to b from 2\na by 2 0"))
        program = book.read(TWO, "step p 1\ntimes 2\ncall f q p\nstep q 1\nend")
        told = left_out(book, [(program, facts("q to p upto 0"))])
        self.assertEqual(sorted(told), [("f", 0, 0, 3, (0, 0)), ("f", 1, 0, 3, (0, 0))])
        for row in told:
            self.assertIs(type(row), tuple)
            self.assertIs(type(row[4]), tuple)

    def test_roots_are_told_by_their_indexes(self):
        book = book_of(f=("", "a to b from 0\na to b upto 0"))
        roots = [(book.read(TWO, "call f p p"), facts("")), (book.read(TWO, "call f p q"), facts("p to q from 0")),
                 (book.read(["r"], "call f r r-1"), facts("", ["r"]))]
        self.assertEqual(sorted(left_out(book, roots)), [("f", 0, 2, 1, (0,)), ("f", 1, 1, 1, (0, 1))])
        self.assertEqual(kept_needs(book, roots), {"f": []})
        self.assertEqual(kept_needs(book, roots[:1]), {"f": [0, 1]})

    def test_calls_of_one_function_by_two_names(self):
        book, one = Book(), function("", "a to b from 0")
        book["f"] = one
        book["g"] = one
        self.kept(book, ["call g p q"], {"f": [0], "g": []})

    def test_calls_within_the_caller_are_at_each_time(self):
        book = book_of(f=("", "a by 2 0\na by 4 0", ["a"]))
        book["g"] = function("times 2\ncall f a\nstep a 2\nend", "a by 4 0", ["a"], book=book)
        self.kept(book, [(["p"], "call g p", "p by 8 4")], {"f": [0], "g": [0]})
        self.kept(book, [(["p"], "call g p+2", "p by 8 4")], {"f": [], "g": []})

    def test_functions_without_calls_ask_no_question(self):
        # There would be thousands of millions of cases.
        wide = function("times 5\ntimes 5\ntimes 5\nstep a 30\nstep b -30\nend\nend\nend\nload x 1 c", "a by 8 0", ["a", "b", "c"])
        book = Book()
        book["wide"] = wide
        root = Program(["a", "b", "c"], "load x 8 a+30\nload y 8 b-30\nload z 8 c")
        self.assertEqual(kept_needs(book, [(root, Contract(["a", "b", "c"], "a by 8 1"))]), {"wide": [0]})

    def test_tuples_of_roots(self):
        book = book_of(f=("", "a to b from 2"))
        self.assertEqual(kept_needs(book, ((book.read(TWO, "call f p q"), facts("")),)), {"f": []})

    def test_new_each_time(self):
        book = book_of(f=("", "a to b from 2"), g="")
        kept_needs(book, [])["f"].clear()
        kept_needs(book, []).clear()
        self.assertEqual(kept_needs(book, []), {"f": [0], "g": []})
        roots = [(book.read(TWO, "call f p q"), facts(""))]
        left_out(book, roots).clear()
        self.assertEqual(len(left_out(book, roots)), 1)
        self.assertEqual(len(roots), 1)

    def test_other_pointers(self):
        book = book_of(f=("", "a to b from 2"))
        right, wrong = (book.read(TWO, "call f p q"), facts("")), (book.read(TWO, ""), facts("", ["q", "p"]))
        for action in (kept_needs, left_out):
            self.fails(OtherPointers, action, book, [wrong])
            self.fails(OtherPointers, action, book, [right, right, wrong])
            self.fails(OtherPointers, action, Book(), [(Program(TWO, ""), facts("", ["p"]))])


if __name__ == "__main__":
    unittest.main()
