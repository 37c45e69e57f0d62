"""Points [7] and [8]: which texts are programs, and which line is the first wrong one."""

import unittest

from partlymet.errors import BadPointers, BadProgram
from partlymet.programs import Program
from plain_reading import RESERVED
from support import Asking

TWO = ["p", "q"]
BAD_NAMES = ("", "A", "x1", "abcdefghijklm", "x-y", "#1", *RESERVED)
BAD_NUMBERS = ("", "-", "-0", "00", "01", "-01", "+1", "1.0", "x", "1_0", "7" * 5000)
BAD_SPOTS = (
    "", "s", "P", "p+0", "p-0", "p+31", "p-31", "p+01", "p+-1", "p--1", "p+", "p-", "+1", "1", "p+1+1", "p-1+1",
    "p+1-1", "x", "p+" + "1" * 5000,
)


class Lines(Asking):
    def right(self, text, pointers=("p", "q")):
        with self.subTest(text):
            self.assertEqual(Program(list(pointers), text).text, text)

    def wrong(self, text, line=None, pointers=("p", "q")):
        """The line is wrong; if none is told, the last one."""
        with self.subTest(text):
            self.fails(BadProgram, Program, list(pointers), text, line=line or text.count("\n") + 1)


class Forms(Lines):
    def test_the_empty_text_does_nothing(self):
        program = Program(TWO, "")
        self.assertEqual([program.text, program.reach, program.far, program.modulus], ["", (0, 0), 0, 1])
        self.is_tuple(program.pointers, ("p", "q"))
        self.assertEqual(program.run([3, 4]).changed(), {})

    def test_empty_words_and_lines(self):
        for text in (" ", "\n", "step p 1\n", "step p 1\n\nstep p 1", " step p 1", "step p 1 ", "step  p 1"):
            with self.subTest(text):
                line = 1 if text in (" ", "\n") or "\n" not in text else 2
                self.fails(BadProgram, Program, TWO, text, line=line)
        self.wrong("times 2\nend ")
        self.wrong("when p by 2 0 \nend", 1)
        self.wrong("when  p by 2 0\nend", 1)
        self.wrong("when p by 2 0\nelse \nend", 2)
        self.wrong("set x 1\ngive x ")

    def test_other_words(self):
        for line in ("move p 1", "p", "x", "Load x 1 p", "from", "to", "is", "apart p 1 q 1", "by", "upto"):
            self.wrong(line)

    def test_calls_are_wrong(self):
        self.wrong("call f p")
        self.wrong("call f p q")
        self.wrong("call")

    def test_input(self):
        for width in range(1, 9):
            self.right(f"input x {width}")
        for width in ("0", "9", "-1", *BAD_NUMBERS):
            self.wrong(f"input x {width}")
        for name in BAD_NAMES:
            self.wrong(f"input {name} 1")
        self.wrong("input x")
        self.wrong("input x 1 1")
        self.wrong("input x 1 p")

    def test_input_stands_ahead_of_all_other_lines(self):
        self.right("input x 1\ninput y 8\nstore x p")
        self.wrong("step p 0\ninput x 1")
        self.wrong("input x 1\nset y 1\ninput z 1")
        self.wrong("times 2\ninput x 1\nend", 2)

    def test_input_each_with_another_register(self):
        self.wrong("input x 1\ninput x 1")
        self.wrong("input x 1\ninput y 2\ninput x 3")

    def test_load(self):
        for width in (1, 2, 4, 8):
            self.right(f"load x {width} p")
        for width in ("0", "3", "5", "6", "7", "9", "16", "-2", *BAD_NUMBERS):
            self.wrong(f"load x {width} p")
        for spot in ("p", "q", "p+1", "q-30", "p+30"):
            self.right(f"load x 1 {spot}")
        for spot in BAD_SPOTS:
            self.wrong(f"load x 1 {spot}")
        for name in BAD_NAMES:
            self.wrong(f"load {name} 1 p")
        self.wrong("load x 1")
        self.wrong("load x p")
        self.wrong("load x 1 p q")

    def test_store(self):
        self.right("set x 1\nstore x p-30")
        for spot in BAD_SPOTS:
            self.wrong(f"set x 1\nstore x {spot}")
        for name in BAD_NAMES:
            self.wrong(f"set x 1\nstore {name} p")
        self.wrong("set x 1\nstore x")
        self.wrong("set x 1\nstore x p p")

    def test_set(self):
        self.right("set x 0")
        self.right("set x 255 0 1 2 3 4 5 6")
        self.wrong("set x")
        self.wrong("set x 0 0 0 0 0 0 0 0 0")
        for number in ("256", "-1", "1000", *BAD_NUMBERS):
            self.wrong(f"set x {number}")
            self.wrong(f"set x 1 {number} 2")
        for name in BAD_NAMES:
            self.wrong(f"set {name} 1")

    def test_join(self):
        self.right("input x 8\njoin y x x")
        self.wrong("input x 8\ninput z 1\njoin y x x\njoin w y z")
        self.right("input x 8\ninput z 1\ninput v 7\njoin y x z\njoin w y v")
        self.wrong("input x 8\njoin y x")
        self.wrong("input x 8\njoin y x x x")
        for name in BAD_NAMES:
            self.wrong(f"set x 1\njoin {name} x x")
            self.wrong(f"set x 1\njoin y {name} x")
            self.wrong(f"set x 1\njoin y x {name}")

    def test_part(self):
        self.right("input x 8\npart y x 0 8")
        self.right("input x 8\npart y x 7 1")
        self.wrong("input x 8\npart y x 7 2")
        self.wrong("input x 8\npart y x 8 1")
        self.wrong("input x 8\npart y x 0 9")
        self.right("input x 8\njoin w x x\npart y w 0 16")
        self.right("input x 8\njoin w x x\npart y w 15 1")
        self.wrong("input x 8\njoin w x x\npart y w 1 16")
        for number in ("-1", *BAD_NUMBERS):
            self.wrong(f"input x 8\npart y x {number} 1")
            self.wrong(f"input x 8\npart y x 1 {number}")
        self.wrong("input x 8\npart y x 0 0")
        self.wrong("input x 8\npart y x 0")
        self.wrong("input x 8\npart y x 0 1 1")

    def test_each(self):
        self.right("set x 1 2\neach f x\neach p x\neach x x")
        for name in BAD_NAMES:
            self.wrong(f"set x 1\neach {name} x")
            self.wrong(f"set x 1\neach f {name}")
        self.wrong("set x 1\neach f")
        self.wrong("set x 1\neach f x x")

    def test_copies(self):
        for word in ("copy", "up", "down"):
            for number in range(1, 17):
                self.right(f"{word} {number} from p to q")
            for number in ("0", "17", "-1", *BAD_NUMBERS):
                self.wrong(f"{word} {number} from p to q")
            for spot in BAD_SPOTS:
                self.wrong(f"{word} 1 from {spot} to q")
                self.wrong(f"{word} 1 from q to {spot}")
            self.right(f"{word} 1 from p+30 to p-30")
            for rest in ("1 p to q", "1 from p q", "1 to p from q", "1 from p", "1 from p to q 1", "from p to q", ""):
                self.wrong(f"{word} {rest}")
            self.wrong(word)

    def test_fill(self):
        self.right("set x 1\nfill 1 x p")
        self.right("set x 1\nfill 16 x q-1")
        self.wrong("set x 1 2\nfill 1 x p")
        for number in ("0", "17", "-1", *BAD_NUMBERS):
            self.wrong(f"set x 1\nfill {number} x p")
        for spot in BAD_SPOTS:
            self.wrong(f"set x 1\nfill 1 x {spot}")
        self.wrong("set x 1\nfill x p")
        self.wrong("set x 1\nfill 1 p x")

    def test_step(self):
        for number in (-30, -1, 0, 1, 30):
            self.right(f"step q {number}")
        for number in ("-31", "31", *BAD_NUMBERS):
            self.wrong(f"step p {number}")
        for spot in ("s", "p+1", "", "P"):
            self.wrong(f"step {spot} 1")
        self.wrong("step p")
        self.wrong("step p 1 1")

    def test_times(self):
        for number in range(1, 6):
            self.right(f"times {number}\nend")
        for number in ("0", "6", "-1", *BAD_NUMBERS):
            self.wrong(f"times {number}\nend", 1)
        self.wrong("times\nend", 1)
        self.wrong("times 2 2\nend", 1)
        self.wrong("times 2\nend 2")

    def test_when(self):
        for fact in ("p to q from -40", "apart p+1 2 q 16", "p by 8 7", "q to p by 2 1"):
            self.right(f"when {fact}\nend")
        for fact in ("p to q from 41", "apart p 1 p 1", "p by 8 8", "p to p is 0", "s by 2 0", "", "p"):
            self.wrong(f"when {fact}\nend", 1)
        self.wrong("when\nend", 1)
        self.wrong("when p by 2 0\nelse when\nend", 2)

    def test_give(self):
        self.right("set x 1\nset y 2 3\ngive x y x x")
        self.right("set x 1\ngive x")
        self.wrong("set x 1\ngive")
        self.wrong("set x 1\ngive x x x x x")
        for name in BAD_NAMES:
            self.wrong(f"set x 1\ngive {name}")

    def test_registers_and_operations_may_be_called_like_pointers(self):
        self.right("input p 1\neach p p\neach q p\nstore p p\nload q 1 q\ngive p q")


class Places(Lines):
    def test_nothing_behind_give(self):
        for line in ("step p 1", "give x", "set y 1", "input z 1", "times 2", "end", "else", "no"):
            self.wrong(f"set x 1\ngive x\n{line}")
        self.wrong("set x 1\ngive x\n")

    def test_give_outside_of_all_blocks(self):
        self.wrong("set x 1\ntimes 2\ngive x\nend", 3)
        self.wrong("set x 1\nwhen p by 2 0\ngive x\nend", 3)
        self.wrong("set x 1\nwhen p by 2 0\nelse\ngive x\nend", 4)
        self.right("set x 1\ntimes 2\nend\ngive x")

    def test_else_and_end(self):
        self.wrong("end")
        self.wrong("else")
        self.wrong("times 2\nelse\nend", 2)
        self.wrong("times 2\nend\nend")
        self.wrong("when p by 2 0\nelse\nelse\nend", 3)
        self.wrong("when p by 2 0\ntimes 2\nelse\nend\nend", 3)
        self.wrong("when p by 2 0\nend\nelse", 3)
        self.right("when p by 2 0\ntimes 2\nend\nelse\nwhen q by 2 0\nelse\nend\nend")

    def test_blocks_may_be_empty(self):
        self.right("times 5\nend\nwhen p by 2 0\nelse\nend\nwhen p by 2 0\nend")

    def test_five_open_blocks_but_not_six(self):
        for opener in ("times 1", "when p by 2 0", "when p by 2 0\nelse"):
            rows = opener.count("\n") + 1
            self.right("\n".join([opener] * 5 + ["end"] * 5))
            self.wrong("\n".join([opener] * 6 + ["end"] * 6), 5 * rows + 1)
        self.right("\n".join(["times 1"] * 5 + ["end"] + ["times 1"] + ["end"] * 5))

    def test_an_end_is_lacking(self):
        self.wrong("times 2", 2)
        self.wrong("when p by 2 0\nelse", 3)
        self.wrong("times 2\ntimes 2\nend", 4)
        self.wrong("when p by 2 0\nstep p 1\nelse\nstep q 1", 5)

    def test_a_wrong_line_counts_ahead_of_a_lacking_end(self):
        self.wrong("times 2\nno", 2)
        self.wrong("times 2\nstep p 1\nstore x p", 3)

    def test_forty_lines_but_not_forty_one(self):
        self.right("\n".join(["step p 1"] * 40))
        self.wrong("\n".join(["step p 1"] * 41), 41)
        self.wrong("\n".join(["step p 1"] * 50), 41)
        self.wrong("\n".join(["times 2"] + ["step p 1"] * 39), 41)
        self.wrong("\n".join(["times 2"] + ["step p 1"] * 39 + ["end"]), 41)
        self.wrong("\n".join(["step p 1"] * 39 + ["no", "no"]), 40)

    def test_the_first_wrong_line_is_told(self):
        self.wrong("step p 1\nstore x p\nno\nend", 2)
        self.wrong("step p 1\nend\nno\nstore x p", 2)
        self.wrong("step p 1\nno\nend\nstore x p", 2)
        self.wrong("set x 1\nset x 1 2\nelse\nload x 3 p", 2)

    def test_pointers_are_looked_at_first(self):
        self.fails(BadPointers, Program, ["p", "p"], "no", index=1)
        self.fails(BadPointers, Program, [], "", index=0)
        self.fails(BadPointers, Program, ["p", "q", "r", "s"], "", index=3)
        self.fails(BadPointers, Program, ["p", "end"], "", index=1)

    def test_only_the_pointers_of_the_program_are_known(self):
        self.wrong("step q 1", pointers=["p"])
        self.wrong("load x 1 q", pointers=["p", "r"])
        self.right("load x 1 r", pointers=["p", "q", "r"])


class Registers(Lines):
    def test_a_register_must_be_set(self):
        for line in ("store x p", "each f x", "fill 1 x p", "give x", "join y x x", "part y x 0 1"):
            self.wrong(line)
            self.wrong(f"set z 1\n{line}")
            self.right(f"set x 1\n{line}")
            self.right(f"input x 1\n{line}")
            self.right(f"load x 1 p\n{line}")
        self.wrong("set x 1\njoin y x z")
        self.wrong("set x 1\njoin y z x")
        for registers in ("y", "x y", "x x y", "x x x y", "y x x x"):
            self.wrong(f"set x 1\ngive {registers}")
        self.wrong("join x x x")
        self.wrong("part x x 0 1")

    def test_the_first_line_fixes_the_width(self):
        self.right("set x 1\nload x 1 p\nset x 2")
        self.wrong("set x 1\nload x 2 p")
        self.wrong("input x 2\nset x 1")
        self.wrong("load x 4 p\nset x 1 2 3")
        self.wrong("set x 1 2\njoin x x x")
        self.wrong("set x 1 2\npart x x 0 1")
        self.right("set x 1 2\npart x x 0 2")
        self.wrong("set x 1 2\nset y 1\njoin y x x")
        self.right("set x 1 2\nset y 1 2 3 4\njoin y x x")

    def test_the_width_is_fixed_on_other_ways_too(self):
        self.wrong("when p by 2 0\nset x 1\nelse\nset x 1 2\nend", 4)
        self.wrong("when p by 2 0\nset x 1\nend\nset x 1 2", 4)
        self.wrong("times 2\nset x 1\nend\nload x 2 p", 4)

    def test_blocks_around_count(self):
        self.right("set x 1\ntimes 2\nwhen p by 2 0\nstore x p\nelse\nstore x q\nend\nend")

    def test_times_counts_behind_its_end(self):
        self.right("times 2\nset x 1\nend\nstore x p")
        self.right("times 2\ntimes 3\nset x 1\nend\nend\ngive x")

    def test_a_lap_before_does_not_count(self):
        self.wrong("times 2\nstore x p\nset x 1\nend", 2)

    def test_when_counts_only_if_both_sides_set(self):
        self.wrong("when p by 2 0\nset x 1\nend\nstore x p")
        self.wrong("when p by 2 0\nset x 1\nelse\nend\nstore x p")
        self.wrong("when p by 2 0\nelse\nset x 1\nend\nstore x p")
        self.right("when p by 2 0\nset x 1\nelse\nload x 1 p\nend\nstore x p")
        self.wrong("when p by 2 0\nset x 1\nset y 1\nelse\nload x 1 p\nset z 1\nend\nstore x p\nstore y p")
        self.wrong("when p by 2 0\nset x 1\nelse\nset x 1\nend\nstore y p")

    def test_the_other_side_does_not_count(self):
        self.wrong("when p by 2 0\nset x 1\nelse\nstore x p\nend", 4)

    def test_what_was_set_ahead_of_a_block_counts_behind_it(self):
        self.right("set x 1\nwhen p by 2 0\nend\nstore x p")
        self.right("set x 1\nwhen p by 2 0\nset y 1\nelse\nend\nstore x p")
        self.right("set x 1\nwhen p by 2 0\nset y 1\nelse\nset y 2\nend\nstore x p\nstore y p")

    def test_sides_within_sides(self):
        both = "when p by 2 0\nset x 1\nelse\nset x 2\nend"
        self.right(f"when q by 2 0\n{both}\nelse\ntimes 2\nset x 3\nend\nend\nstore x p")
        one = "when p by 2 0\nset x 1\nend"
        self.wrong(f"when q by 2 0\n{one}\nelse\nset x 3\nend\nstore x p")
        self.right(f"times 2\n{both}\nend\nstore x p")
        self.wrong(f"times 2\n{one}\nend\nstore x p")


if __name__ == "__main__":
    unittest.main()
