"""Point [14], and the interface of partlymet/lines.py."""

import unittest

from partlymet.compare import alike
from partlymet.contracts import Contract
from partlymet.errors import NoLine, OtherPointers
from partlymet.lines import copy_ways, idle_lines, may_swap, sources, thinned
from partlymet.programs import Program
from support import Asking

TWO = ["p", "q"]
HUGE = 10 ** 999
NOWHERE = "p to q is 0\np to q is 1"


def program(text, pointers=("p", "q")):
    return Program(list(pointers), text)


def facts(text, pointers=("p", "q")):
    return Contract(list(pointers), text)


class IdleLines(Asking):
    def test_each_by_itself(self):
        twice = program("set x 1\nstore x p\nstore x p")
        self.is_list(idle_lines(twice), [2, 3])

    def test_none(self):
        self.is_list(idle_lines(program("")), [])
        self.is_list(idle_lines(program("set x 1\nstore x p\nload y 1 q\nstep p 3")), [])

    def test_only_write_lines_are_told(self):
        text = "load x 1 p\nset y 1\njoin z x y\npart z z 0 2\neach f z\nstep p 1\nwhen p by 2 0\nend\ntimes 2\nend"
        self.is_list(idle_lines(program(text)), [])

    def test_each_kind_of_write_line(self):
        text = "input x 1\nstore x p\ncopy 1 from p to p\nup 1 from p to p\ndown 1 from p to p\nfill 1 x p"
        self.is_list(idle_lines(program(text)), [2, 3, 4, 5, 6])
        self.is_list(idle_lines(program("input x 1\nfill 2 x p\ncopy 1 from p to p+1")), [3])

    def test_under_a_contract(self):
        text = "set x 1\nset y 2\nstore x p\nstore y q"
        self.is_list(idle_lines(program(text)), [])
        self.is_list(idle_lines(program(text), under=facts("p to q is 0")), [3])
        self.is_list(idle_lines(program(text), under=None), [])
        self.is_list(idle_lines(program(text), under=facts("p to q from 1")), [])

    def test_lines_that_are_never_done(self):
        text = "set x 1\nwhen p to q from 1\nwhen p to q upto 0\nstore x p\nend\nelse\nstore x q\nend"
        self.is_list(idle_lines(program(text)), [4])
        self.is_list(idle_lines(program(text), under=facts("p to q from 1")), [4, 7])

    def test_in_all_laps(self):
        self.is_list(idle_lines(program("times 2\ncopy 1 from p to q\nstep p 0\nend")), [])
        self.is_list(idle_lines(program("set x 1\ntimes 2\nstore x p\nstep p 1\nend\nstore x p-1")), [6])

    def test_what_is_given_counts(self):
        text = "set x 1\nload y 1 p\nstore x p\nload z 1 p\nstore y p\n"
        self.is_list(idle_lines(program(text + "give y")), [3])
        self.is_list(idle_lines(program(text + "give z")), [])

    def test_no_places_keep_the_contract(self):
        text = "set x 1\nstore x p\nstore x q"
        self.is_list(idle_lines(program(text), under=facts(NOWHERE)), [2, 3])

    def test_three_pointers(self):
        text = "copy 1 from p to q\ncopy 1 from q to r\ncopy 1 from p to r"
        names = ["p", "q", "r"]
        self.is_list(idle_lines(program(text, names)), [2, 3])
        self.is_list(idle_lines(program(text, names), under=facts("q to r is 0", names)), [1, 2, 3])

    def test_other_pointers(self):
        for names in (["p"], ["q", "p"], ["p", "q", "r"]):
            self.fails(OtherPointers, idle_lines, program("copy 1 from p to p"), under=facts("", names))

    def test_new_each_time(self):
        twice = program("set x 1\nstore x p\nstore x p")
        idle_lines(twice).clear()
        self.is_list(idle_lines(twice), [2, 3])


class Thinned(Asking):
    def told(self, text, lines, left, under=None):
        whole = program(text)
        told = thinned(whole, under=under)
        self.assertIs(type(told), tuple)
        self.assertEqual(len(told), 2)
        self.is_list(told[0], lines)
        self.assertIsInstance(told[1], Program)
        self.assertEqual(told[1].text, left)
        self.is_tuple(told[1].pointers, ("p", "q"))
        self.assertTrue(alike(whole, told[1], under=under))
        self.assertEqual(whole.text, text)

    def test_from_the_last_line_on(self):
        self.told("set x 1\nstore x p\nstore x p", [3], "set x 1\nstore x p")
        self.told("set x 1\nstore x p\nstore x p\nstore x p\nstep p 1", [3, 4], "set x 1\nstore x p\nstep p 1")

    def test_lines_that_become_idle(self):
        # The store to p is idle only when the copy, which reads it, is left out.
        text = "set x 1\nload y 1 p\nstore x q\nstore x p\ncopy 1 from p to q\nstore y p"
        self.assertEqual(idle_lines(program(text)), [3, 5])
        self.told(text, [4, 5], "set x 1\nload y 1 p\nstore x q\nstore y p")

    def test_nothing_is_left_out(self):
        self.told("copy 1 from p to q", [], "copy 1 from p to q")
        self.told("", [], "")

    def test_everything_is_left_out(self):
        self.told("copy 1 from p to p", [1], "")
        self.told("times 2\nup 3 from q to q\nend", [2], "times 2\nend")
        self.told("copy 1 from p to q", [1], "", under=facts("p to q is 0"))

    def test_under_a_contract(self):
        text = "set x 1\nset y 2\nstore x p\nstore y q"
        self.told(text, [3], "set x 1\nset y 2\nstore y q", under=facts("p to q is 0"))
        self.told(text, [3, 4], "set x 1\nset y 2", under=facts(NOWHERE))

    def test_measures_are_those_of_what_is_left(self):
        left = thinned(program("step p 1\ncopy 16 from p+9 to p+9"))[1]
        self.is_tuple(left.reach, (0, 1))

    def test_other_pointers(self):
        self.fails(OtherPointers, thinned, program(""), under=facts("", ["q", "p"]))


class Sources(Asking):
    def told(self, text, line, expected, under=None, pointers=("p", "q")):
        contract = None if under is None else facts(under, pointers)
        with self.subTest((text, line, under)):
            self.is_list(sources(program(text, pointers), line, under=contract), expected)

    def test_the_latest_writer(self):
        text = "set x 1\nstore x p\nfill 1 x p\nload y 1 p"
        self.told(text, 4, [3], pointers=["p"])
        self.told("load y 1 p\nstore y p\nload y 1 p", 1, [0], pointers=["p"])
        self.told("load y 1 p\nstore y p\nload y 1 p", 3, [2], pointers=["p"])

    def test_some_cells_of_each(self):
        text = "set x 1\nstore x p\nstore x p+2\nload y 4 p"
        self.told(text, 4, [0, 2, 3], pointers=["p"])

    def test_all_places(self):
        text = "set x 1\nstore x p\nstore x p+1\nload y 1 q"
        self.told(text, 4, [0, 2, 3])
        self.told(text, 4, [3], "p to q is 1")
        self.told(text, 4, [0], "p to q upto -1")
        self.told(text, 4, [0, 2], "p to q by 2 0")
        self.told(text, 4, [], NOWHERE)

    def test_a_source_at_one_far_distance_alone(self):
        text = "set x 1\nstore x p-30\nstep p 30\nstep p 30\nstore x p+30\nload y 1 q"
        self.told(text, 6, [0, 2, 5])
        self.told(text, 6, [0, 2], "p to q upto 40")
        text = "set x 1\nstore x p-30\nload y 1 q+30"
        self.told(text, 3, [0, 2])
        self.told("set x 1\nwhen p to q is -40\nstore x q\nend\nload y 1 q", 5, [0, 3])
        self.told("set x 1\nwhen p to q is 40\nwhen q by 8 7\nstore x q\nend\nend\nload y 1 q", 7, [0, 4])

    def test_all_times(self):
        text = "load a 1 q\ntimes 3\nload x 1 p\nstore a p+1\nstep p 1\nend"
        self.told(text, 3, [0, 4])
        self.told("times 2\nwhen p by 2 0\nload x 1 p\nelse\nset y 1\nstore y p+1\nend\nstep p 1\nend", 3, [0, 6], pointers=["p"])

    def test_lines_that_are_never_done(self):
        self.told("when p to q is 1\nwhen p to q is 2\nload x 1 p\nend\nend", 3, [])
        self.told("when p to q is 1\nload x 1 p\nend", 2, [], "p to q upto 0")

    def test_up_and_down_write_for_themselves(self):
        self.told("up 3 from p to q", 1, [0, 1])
        self.told("up 3 from p to q", 1, [0], "p to q upto 0")
        self.told("up 3 from p to q", 1, [0], "p to q from 3")
        self.told("up 3 from p to q", 1, [0, 1], "p to q is 2")
        self.told("down 3 from p to q", 1, [0, 1], "p to q is -2")
        self.told("down 3 from p to q", 1, [0], "p to q from 0")
        self.told("set x 1\nstore x p\nup 3 from p to p+1", 3, [2, 3], pointers=["p"])
        for word in ("up", "down", "copy"):
            for at in ("p", "p+1", "p+2"):
                self.told(f"set x 1\nstore x {at}\n{word} 3 from p to q", 3, [0, 2], "p to q from 20")

    def test_copy_does_not(self):
        self.told("copy 3 from p to q", 1, [0])
        self.told("times 2\ncopy 3 from p to q\nend", 2, [0, 2])

    def test_equal_contents_are_other_writers(self):
        self.told("load x 1 p\nstore x p\ncopy 1 from p to p\nload y 1 p", 4, [3], pointers=["p"])

    def test_no_line(self):
        text = "\n".join([
            "input i 1", "load x 1 p", "store x q", "set y 1", "join z x y", "part v z 1 1", "each f v",
            "copy 1 from p to q", "up 1 from p to q", "down 1 from p to q", "fill 1 y p", "step p 2",
            "when p by 2 0", "else", "end", "times 2", "end", "give v",
        ])
        whole = program(text)
        for line in (2, 8, 9, 10):
            self.assertIs(type(sources(whole, line)), list)
        for line in (1, 3, 4, 5, 6, 7, *range(11, 20), 0, -1, -11, HUGE, -HUGE):
            self.fails(NoLine, sources, whole, line, line=line)
        self.fails(NoLine, sources, program(""), 1, line=1)
        self.fails(NoLine, sources, program(""), 0, line=0)

    def test_other_pointers_come_first(self):
        self.fails(OtherPointers, sources, program("load x 1 p"), 1, under=facts("", ["p"]))
        self.fails(OtherPointers, sources, program("load x 1 p"), 2, under=facts("", ["p"]))


class Swaps(Asking):
    def told(self, text, line, expected, under=None):
        with self.subTest((text, line, under)):
            self.assertIs(may_swap(program(text), line, under=None if under is None else facts(under)), expected)

    def test_stores(self):
        text = "set x 1\nset y 2\nstore x p\nstore y q"
        self.told(text, 3, False)
        self.told(text, 3, True, "p to q from 1")
        self.told(text, 3, False, "p to q upto 0")
        self.told(text, 3, True, NOWHERE)
        self.told(text, 1, True)

    def test_loads_and_stores(self):
        text = "input x 2\nload y 2 p\nstore x q\ngive y"
        self.told(text, 2, False)
        self.told(text, 2, True, "apart p 2 q 2")

    def test_texts_that_cannot_be_read_then(self):
        self.told("load x 1 p\nstore x q", 1, False)
        self.told("set x 1\neach f x", 1, False)
        self.told("set x 1 2\npart y x 0 1", 1, False)
        self.told("load x 1 p\nstore x q", 1, False, NOWHERE)
        self.told("set x 1\nload x 1 p\nstore x p", 1, False)
        self.told("set x 1\nset x 1\nstore x p", 1, True)

    def test_steps(self):
        self.told("step p 1\ncopy 1 from p to q", 1, False)
        self.told("step p 1\ncopy 1 from q to q+1", 1, True)
        self.told("step p 1\nstep q 1", 1, True)

    def test_the_other_text_may_reach_farther(self):
        # Behind the step the store is 30 cells farther off than anything in the text as it is.
        text = "set x 1\nset y 2\nstore x q\nstore y p\nstep p 30\nload z 1 p\ngive z"
        self.told(text, 4, False)
        self.told(text, 5, False)
        self.told("set x 1\nfill 1 x q\nfill 1 x p+30\nstep p 30", 3, False)
        self.told("set x 1\nfill 1 x q\nfill 1 x p+30\nstep p 30", 3, True, "p to q is 30\np by 2 0\np by 2 1")

    def test_in_blocks(self):
        text = "set x 1\nset y 2\ntimes 2\nstore x p\nstore y q\nend"
        self.told(text, 4, False)
        self.told(text, 4, True, "p to q upto -1")

    def test_no_line(self):
        text = "\n".join([
            "input a 1", "input b 1", "load x 1 p", "store x q", "set y 1", "join z x y", "part v z 1 1", "each f v",
            "copy 1 from p to q", "up 1 from p to q", "down 1 from p to q", "fill 1 y p", "step p 2", "times 2",
            "step p 1", "end", "step p 1", "when p by 2 0", "step q 1", "else", "step q 1", "end", "step p 1", "give v",
        ])
        whole = program(text)
        for line in range(3, 13):
            self.assertIsInstance(may_swap(whole, line), bool)
        for line in (1, 2, *range(13, 26), 0, -1, HUGE, -HUGE):
            self.fails(NoLine, may_swap, whole, line, line=line)
        self.fails(NoLine, may_swap, program("step p 1"), 1, line=1)
        self.fails(NoLine, may_swap, program("step p 1"), 0, line=0)

    def test_other_pointers_come_first(self):
        self.fails(OtherPointers, may_swap, program("step p 1\nstep p 1"), 1, under=facts("", ["q", "p"]))
        self.fails(OtherPointers, may_swap, program(""), 7, under=facts("", ["q", "p"]))


class CopyWays(Asking):
    def told(self, text, line, expected, under=None):
        with self.subTest((text, line, under)):
            self.is_list(copy_ways(program(text), line, under=None if under is None else facts(under)), expected)

    def test_ways(self):
        for word in ("copy", "up", "down"):
            text = f"{word} 3 from p to q"
            self.told(text, 1, [word])
            self.told(text, 1, ["copy", "down", "up"], "apart p 3 q 3")
            self.told(text, 1, ["copy", "down", "up"], "p to q is 0")
            self.told(text, 1, ["copy", "down", "up"], NOWHERE)
        self.told("copy 3 from p to q", 1, ["copy", "up"], "p to q upto 0")
        self.told("copy 3 from p to q", 1, ["copy", "down"], "p to q from 0")
        self.told("up 3 from p to q", 1, ["up"], "p to q is 1")

    def test_single_cells(self):
        self.told("up 1 from p to q", 1, ["copy", "down", "up"])

    def test_what_comes_behind_counts(self):
        text = "copy 2 from p to q\nset x 1\nfill 2 x q"
        self.told(text, 1, ["copy", "down", "up"])

    def test_down_and_up_alike_but_not_copy(self):
        text = "input x 1\nfill 3 x p\nup 2 from p to q"
        self.told(text, 3, ["copy", "down", "up"], "p to q is 1")

    def test_in_times(self):
        self.told("times 2\ndown 3 from q to p\nend", 2, ["copy", "down"], "q to p is 1")
        self.told("times 2\ndown 2 from q to p\nend", 2, ["copy", "down", "up"], "q to p is 1")

    def test_no_line(self):
        text = "load x 1 p\nstore x q\ncopy 1 from p to q\nup 1 from p to q\ndown 1 from p to q\nfill 1 x p\nstep p 1"
        whole = program(text)
        for line in (3, 4, 5):
            self.assertIs(type(copy_ways(whole, line)), list)
        for line in (1, 2, 6, 7, 8, 0, -3, HUGE, -HUGE):
            self.fails(NoLine, copy_ways, whole, line, line=line)

    def test_other_pointers_come_first(self):
        self.fails(OtherPointers, copy_ways, program("up 1 from p to q"), 1, under=facts("", ["q", "p"]))
        self.fails(OtherPointers, copy_ways, program(""), 1, under=facts("", ["q", "p"]))


if __name__ == "__main__":
    unittest.main()
