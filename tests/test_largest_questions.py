"""Questions about lines, options, functions and benches at the largest sizes that [2] lets.

Each is answered by a plain search, too, and takes a few seconds at most.
"""

import time
import unittest

import plain_questions as plain
from partlymet.benches import Bench
from partlymet.books import Book, Function, broken_calls, kept_needs, left_out, may_replace
from partlymet.compare import alike
from partlymet.contracts import Contract
from partlymet.errors import Clash, Parted, Stuck
from partlymet.lines import copy_ways, idle_lines, may_swap, sources, thinned
from partlymet.needs import guarded, needs, stuck
from plain import Walker, all_cases, first_parting, keeps, lines_of
from support import Asking

NAMES = ["p", "q", "r"]
LONGEST = 6


def many_cases(pointers, programs, contracts):
    """The number of cases of [12], as it stands there."""
    reach = [0] + [end for program in programs for end in program.reach]
    both = [*programs, *contracts]
    modulus = max(thing.modulus for thing in both)
    gap = 1 + max(reach) - min(reach) + max(thing.far for thing in both)
    ways = {1: 1, 2: 2, 3: 6}[len(pointers)]
    return modulus * ways * (gap + modulus) ** (len(pointers) - 1)


class Largest(Asking):
    """What tests of large questions ask for. Functions are as in the second reading; the book is made of them."""

    functions = {}

    def setUp(self):
        self.book = Book()
        for name, (pointers, text, needed) in self.functions.items():
            self.book[name] = Function(self.book.read(pointers, text), Contract(pointers, needed))

    def asked(self, pointers, texts, contracts, least, most=2000):
        """The programs and contracts of a question, if it is as large as it should be."""
        programs = [self.book.read(pointers, text) for text in texts]
        rows = [Contract(pointers, text) for text in contracts]
        cases = many_cases(pointers, programs, rows)
        self.assertLessEqual(cases, most)
        self.assertGreaterEqual(cases, least)
        for text in texts:
            for places in ([0, 1, 2], [7, 4, 5], [3, 90, -90]):
                lines = Walker(pointers, text, places[:len(pointers)], None, self.functions).lines_done
                self.assertLessEqual(lines, 60)
                self.assertGreaterEqual(lines, 40)
        return [*programs, *rows]

    def quick(self, action, *arguments, **keywords):
        """What a call tells, which takes no more than a few seconds."""
        start = time.process_time()
        told = action(*arguments, **keywords)
        self.assertLess(time.process_time() - start, LONGEST)
        return told


ONE_POINTER = "times 5\nup 16 from p to p+3\ndown 16 from p+20 to p-9\ncopy 9 from p-30 to p+1\nset x 1\nfill 16 x p\n" \
    "load y 8 p\neach f y\nstore y p+30\nstep p 1\nend\n"
TWO_POINTERS = "times 5\nup 16 from p+20 to q-18\nstep p 3\nstep q -2\ncopy 7 from p to q\ndown 16 from q to p\n" \
    "up 8 from q to p\nset y 3\nfill 9 y q+5\nend\nload x 8 q\neach f x\nstore x p"
TWO_WIDE = "times 5\n" + "step p 30\n" * 3 + "step q -30\n" * 3 + "end\n" \
    + "\n".join(["up 16 from p to q+30", "down 8 from q to p-30", "copy 16 from p to q"] * 5)
THREE_POINTERS = "times 5\n" + "up 8 from p to q\ndown 8 from r to p\ncopy 8 from q to r\n" * 3 + "end\n" \
    + "up 15 from p to q\ncopy 16 from q to r\nset x 1\nfill 16 x r\nload y 8 q"
THREE_SHORT = THREE_POINTERS.replace("15", "7").replace("16", "8")


class Lines(Largest):
    def line_questions(self, pointers, text, under, least, numbers):
        """Questions about the lines of these numbers, each of the kind that it can be asked for."""
        program, facts = self.asked(pointers, [text], [under], least)
        told = []
        for number in numbers:
            word = text.split("\n")[number - 1].split(" ")[0]
            with self.subTest((number, word)):
                if word in ("load", "copy", "up", "down"):
                    expected = plain.sources(pointers, text, number, under)
                    self.is_list(self.quick(sources, program, number, under=facts), expected)
                    told.append(expected)
                if word in ("copy", "up", "down"):
                    expected = plain.copy_ways(pointers, text, number, under)
                    self.is_list(self.quick(copy_ways, program, number, under=facts), expected)
                    told.append(expected)
                if number in plain.swap_lines(text):
                    expected = plain.may_swap(pointers, text, number, under)
                    self.assertIs(self.quick(may_swap, program, number, under=facts), expected)
                    told.append(expected)
        return told

    def test_one_pointer(self):
        text = ONE_POINTER + "copy 1 from p to p-30"
        told = self.line_questions(["p"], text, "p by 8 3\np by 2 1", 8, range(2, 13))
        self.assertIn([0, 2, 6], told)

    def test_two_pointers(self):
        told = self.line_questions(["p", "q"], TWO_POINTERS, "p to q from 36\np by 8 3", 1900, [2, 12])
        self.assertGreater(len(told[0]), 3)

    def test_two_pointers_that_are_far_apart(self):
        # The cell is written only if the pointers are as far apart as they can be to meet.
        text = "times 5\n" + "step p 30\n" * 3 + "step q -30\n" * 3 + "end\nset x 1\nfill 1 x p+30\nload y 1 q-30\n"
        text += "step p 0\ncopy 2 from q-30 to p+30"
        told = self.line_questions(["p", "q"], text, "", 1900, [11, 13])
        self.assertEqual(told, [[0, 10], True, [0, 10], ["copy"]])

    def test_three_pointers(self):
        under = "p to q from 0\nq to r from 0"
        told = self.line_questions(["p", "q", "r"], THREE_POINTERS, under, 1900, [2, 15])
        self.assertGreater(len(told[0]), 2)

    def left_out(self, pointers, text, under, least):
        program, facts = self.asked(pointers, [text], [under], least, 300)
        expected = plain.idle(pointers, text, under)
        self.is_list(self.quick(idle_lines, program, under=facts), expected)
        gone, left = self.quick(thinned, program, under=facts)
        self.assertEqual((gone, left.text), plain.thinned(pointers, text, under))
        return expected, gone

    def test_many_idle_lines_of_one_pointer(self):
        text = "\n".join(["copy 16 from p to p", "up 16 from p+1 to p+1"] * 9 + ["times 2"] + ["down 8 from p to p"] * 17)
        expected, gone = self.left_out(["p"], text + "\nup 2 from p to p+1\nend", "p by 8 1", 8)
        self.assertEqual([len(expected), gone], [35, expected])

    def test_many_idle_lines_of_two_pointers(self):
        rows = ["copy 16 from p to p", "up 16 from p+1 to p+1", "down 16 from q+1 to q+1"]
        text = "\n".join(["copy 3 from p to q"] * 2 + rows * 5 + ["times 2"] + rows * 6 + ["copy 2 from p to q"] * 2)
        expected, gone = self.left_out(["p", "q"], text + "\nend", "p to q from 1\np to q by 4 1", 180)
        self.assertEqual([len(expected), len(gone)], [35, 35])
        expected, gone = self.left_out(["p", "q"], text + "\nend", "q to p upto 40", 110)
        self.assertEqual(len(gone), 34)

    def test_many_idle_lines_of_three_pointers(self):
        rows = ["copy 3 from p to q", "copy 3 from p to r", "up 3 from q to q"]
        text = "\n".join(["copy 3 from p to q"] + rows * 4 + ["times 2"] + rows * 7 + ["end"])
        expected, gone = self.left_out(["p", "q", "r"], text, "p to q from 2", 290)
        self.assertGreater(len(gone), 10)


class Options(Largest):
    def option_questions(self, pointers, one, two, options, under, least):
        p, q, rows, facts = self.asked(pointers, [one, two], [options, under], least)
        self.assertEqual(len(rows), 8)
        expected = plain.needs(pointers, one, two, options, under)
        self.is_list(self.quick(needs, p, q, rows, under=facts), expected)
        places = plain.stuck(pointers, one, two, options, under)
        self.assertEqual(self.quick(stuck, p, q, rows, under=facts), places)
        if places is None:
            program = self.quick(guarded, p, q, rows, under=facts)
            self.assertTrue(self.quick(alike, p, program, under=facts))
            chosen = "\n".join(lines_of(options)[index] for index in expected[0])
            for row in all_cases(pointers, [one, two], [options, under])[::37]:
                done = q if keeps(chosen, pointers, row) else p
                self.assertTrue(program.run(row) == done.run(row))
        else:
            self.fails(Stuck, guarded, p, q, rows, under=facts, places=places)
        return expected

    def test_one_pointer(self):
        options = "\n".join(f"p by 8 {k}" for k in range(1, 7)) + "\np by 4 1\np by 2 1"
        found = self.option_questions(["p"], ONE_POINTER + "step p 1", ONE_POINTER + "load z 8 p", options, "", 8)
        self.assertEqual(found, [[]])
        test = "when p by 8 5\nelse\nset z 9\nstore z p\nend"
        found = self.option_questions(["p"], ONE_POINTER + "step p 1", ONE_POINTER + test, options, "", 8)
        self.assertIn([4, 5], found)

    def test_two_pointers(self):
        two = TWO_POINTERS + "\nwhen p to q by 8 5\nwhen p by 8 3\nwhen p to q from 20\nstore x q\nend\nend\nend"
        options = "p to q upto 19\np by 2 0\nq by 4 0\np to q by 2 0\nq by 2 1\np by 8 3\np to q by 4 1\np to q from 6"
        found = self.option_questions(["p", "q"], TWO_POINTERS, two, options, "q by 2 0\np to q from -28", 1750)
        self.assertGreater(len(found), 4)
        found = self.option_questions(["p", "q"], TWO_POINTERS, two, options.replace("upto 19", "from 1"), "", 1600)

    def test_stuck_at_far_places_alone(self):
        test = "\nset z 1\nwhen p to q from -5\nstore z p\nend"
        options = "\n".join(f"p to q from {k}" for k in range(-40, 40, 10))
        found = self.option_questions(["p", "q"], TWO_WIDE, TWO_WIDE + test, options, "", 1900)
        self.assertEqual(found, [])

    def test_three_pointers(self):
        one = THREE_SHORT.replace("load y 8 q", "up 8 from p to q")
        two = THREE_SHORT.replace("load y 8 q", "copy 8 from p to q")
        options = "q to p from 0\np to q from 8\np to q from -3\nq to r is 1\np to r from 2\np to q upto 8\nr to p from 5"
        found = self.option_questions(["p", "q", "r"], one, two, options + "\nq to r upto 0", "", 1900)
        self.assertGreater(len(found), 1)


class Functions(Largest):
    functions = {
        "move": (["a", "b"], "copy 16 from a to b\nset x 1\nstore x b+3\nstep a 9\ndown 8 from b to a", "a to b from 3"),
        "more": (["b", "a"], "times 2\ncall move a b\nstep a 2\ncall move b+1 a-1\nend", "a by 4 1\nb to a upto 20"),
        "short": (["a", "b"], "up 2 from a to b\nload x 2 a\neach f x\nstore x b", "a to b from -2\na by 2 0"),
        "twice": (["a", "b"], "times 2\ncall short a b\nstep a 1\ncall short b a\nend", "a by 2 0\na to b upto 3"),
        "wide": (["c", "a", "b"], "up 2 from a to b\ncopy 2 from b to c\nup 3 from c to a", "a to b from -1\nc to a upto 1"),
        "once": (["a"], "load x 8 a\neach f x\nstore x a+3\nstep a 2\ncopy 16 from a to a-7", "a by 8 1\na by 4 1\na by 2 1"),
    }

    def test_lines_with_calls(self):
        pointers = ["p", "q"]
        text = "step q 4\ncall more p q\ncopy 8 from p to q\ncall move q+1 p-4\nload y 8 q-1\ncall move p q+3\nload x 8 p"
        text += "\n" + "up 1 from p to p+1\n" * 4 + "call short p q"
        program, facts = self.asked(pointers, [text], ["p to q from 8"], 400)
        for number in (3, 5, 7):
            expected = plain.sources(pointers, text, number, "p to q from 8", self.functions)
            self.is_list(self.quick(sources, program, number, under=facts), expected)
        for number in (3, 5):
            expected = plain.may_swap(pointers, text, number, "p to q from 8", self.functions)
            self.assertIs(self.quick(may_swap, program, number, under=facts), expected)
        expected = plain.copy_ways(pointers, text, 3, "p to q from 8", self.functions)
        self.is_list(self.quick(copy_ways, program, 3, under=facts), expected)

    def test_broken_calls_of_one_pointer(self):
        text = "times 2\ncall once p\nstep p 3\nend\ncall twice p p-1"
        self.broken(["p"], text, "", 8)
        self.broken(["p"], text, "p by 4 2", 8)

    def test_broken_calls_of_two_pointers(self):
        text = "call twice p q\nstep p 1\ncall twice q p+1"
        self.assertGreater(len(self.broken(["p", "q"], text + "\ncall short q-30 p+30", "", 250)), 3)
        self.broken(["p", "q"], text + "\ncall short q-11 p+9", "p to q from 4\nq by 4 3", 200)

    def test_broken_calls_of_three_pointers(self):
        text = "times 4\ncall wide p q r\ncall wide r q p\ncall wide q q p\nend"
        self.assertGreater(len(self.broken(["p", "q", "r"], text, "", 200)), 2)

    def broken(self, pointers, text, under, least):
        program, facts = self.asked(pointers, [text], [under], least, 300)
        expected = plain.broken_calls(pointers, text, under, self.functions)
        self.is_list(self.quick(broken_calls, program, under=facts), expected)
        return expected

    def test_may_replace(self):
        one = "call twice a b\nstep a 1\ncall short b a\ntimes 3\nup 2 from a to b+1\ndown 2 from a+1 to b\nend"
        other = one + "\nload x 8 a+30\nload y 8 b-30"
        needed = "a to b from 20\nb by 4 1"
        for text, less, expected in (
            (other, "a to b from 19\nb by 2 1", True), (other, "a to b from 21", False),
            (other + "\nwhen a to b from 21\ncopy 1 from a to b\nend", "", False),
            (other + "\nwhen a to b upto 18\ncopy 1 from a to b\nend", "b by 2 1", True),
        ):
            with self.subTest((text, less)):
                self.asked(["a", "b"], [one, text], [needed], 600)
                f = Function(self.book.read(["a", "b"], one), Contract(["a", "b"], needed))
                g = Function(self.book.read(["a", "b"], text), Contract(["a", "b"], less))
                self.assertIs(self.quick(may_replace, f, g), expected)
                triples = (["a", "b"], one, needed), (["a", "b"], text, less)
                self.assertIs(plain.may_replace(*triples, self.functions), expected)

    def test_may_replace_with_three_pointers(self):
        one, other = THREE_SHORT, THREE_SHORT.replace("up 8", "copy 8")
        for needed, less in (("p to q from 8\nq to r from 3", "p to r from 10"), ("q to p from 3", "q to p from 3\nr to q from 0")):
            self.asked(NAMES, [one, other], [needed], 1000)
            f, g = [Function(self.book.read(NAMES, text), Contract(NAMES, rows)) for text, rows in ((one, needed), (other, less))]
            expected = plain.may_replace((NAMES, one, needed), (NAMES, other, less), {})
            self.assertIs(self.quick(may_replace, f, g), expected)


class Kept(Largest):
    functions = {
        "e": (["a", "b"], "copy 2 from a to b", "a to b from -1\na to b upto 2"),
        "f": (["a", "b"], "copy 2 from a to b", "a to b from -1\na by 2 0\na to b upto 2"),
        "g": (["a", "b"], "times 5\ncall f a b\ncall f a+20 b-7\nend", "a to b from 1\na by 4 0"),
        "h": (["a", "b", "c"], "times 4\ncall e a b\ncall e b c\ncall e c a\nend", "a to b is 0\nb to c is 0"),
        "i": (["a"], "times 3\ncall g a a+1\nstep a 2\nend", "a by 8 4"),
    }

    def test_kept_needs(self):
        pair, single = ["p", "q"], ["p"]
        roots = [
            (pair, "times 4\ncall g p q\nend", "p to q from 1\np by 4 0"), (single, "call i p\ncall g p p+2", "p by 4 0"),
            (NAMES, "times 3\ncall h p q r\nend\ncall e p q", "p to q is 0\nr to q is 0"),
        ]
        for many in range(len(roots) + 1):
            with self.subTest(many):
                asked = [(self.book.read(names, text), Contract(names, rows)) for names, text, rows in roots[:many]]
                callers = asked + [(self.book[name].program, self.book[name].needed) for name in "ghi"]
                sizes = [many_cases(facts.pointers, [program], [facts]) for program, facts in callers]
                self.assertLessEqual(max(sizes), 300)
                self.assertGreater(max(sizes), 150)
                self.assertEqual(self.quick(kept_needs, self.book, asked), plain.kept_needs(self.functions, roots[:many]))
                told = self.quick(left_out, self.book, asked)
                self.assertIsNone(plain.wrong_reason(self.functions, roots[:many], told))


class Benches(Largest):
    def test_two_pointers(self):
        pointers = ["p", "q"]
        test = "\nwhen p to q by 8 5\nwhen p by 8 3\nwhen p to q from 20\nstore x q\nend\nend\nend"
        facts = "p to q from 1\nq by 4 0"
        other = TWO_POINTERS + test
        program, changed, _ = self.asked(pointers, [TWO_POINTERS, other], [facts], 1600)
        bench = Bench(program, Contract(pointers, "p to q from 1"))
        places = first_parting(pointers, TWO_POINTERS, other, "p to q from 1")
        self.assertIsNotNone(places)
        self.quick(self.fails, Parted, bench.change, changed, places=places)
        self.quick(bench.assume, "q by 4 1")
        self.quick(self.fails, Clash, bench.assume, "q by 2 0")
        self.quick(bench.change, changed)
        self.assertEqual(self.quick(bench.used), plain.needs(pointers, TWO_POINTERS, other, bench.facts.text))
        self.quick(self.fails, Parted, bench.release, 1, places=places)
        self.quick(bench.release, 0)
        self.assertEqual(bench.facts.text, "q by 4 1")
        places = first_parting(pointers, other, plain.exchanged(other, 5), "q by 4 1")
        self.assertIsNotNone(places)
        self.quick(self.fails, Parted, bench.swap, 5, places=places)
        self.assertIsNone(first_parting(pointers, other, plain.exchanged(other, 7), "q by 4 1"))
        self.quick(bench.swap, 7)

    def test_three_pointers(self):
        facts = Contract(NAMES, "p to q from 8\nq to r from 1")
        program, _ = self.asked(NAMES, [THREE_SHORT], [facts.text], 1900)
        bench = Bench(program, facts)
        text = THREE_SHORT
        for number in (2, 12, 13):
            for word in ("up", "copy"):
                other = plain.turned(text, number, word)
                places = first_parting(NAMES, text, other, facts.text)
                if places is None:
                    self.quick(bench.turn, number, word)
                    text = other
                else:
                    self.quick(self.fails, Parted, bench.turn, number, word, places=places)
        self.assertEqual(bench.now.text, text)
        self.assertEqual(self.quick(bench.used), plain.needs(NAMES, THREE_SHORT, text, facts.text))


if __name__ == "__main__":
    unittest.main()
