"""Point [12]: offsets and reach, far and modulus of programs, and the cases that are enough."""

import unittest

from made import Maker
from partlymet.cases import folded, near_places
from partlymet.programs import Program
from plain import cases, fact_far, fact_modulus, offsets_on_all_ways, tests_of
from support import Asking

TWO = ["p", "q"]


class Reach(Asking):
    def reach(self, text, expected, pointers=("p", "q")):
        with self.subTest(text):
            self.is_tuple(Program(list(pointers), text).reach, expected)

    def test_nothing(self):
        self.reach("", (0, 0))
        self.reach("input y 8\nset x 1\neach f x\njoin z x y\npart y y 0 8\ngive z", (0, 0))

    def test_steps(self):
        self.reach("step p 7", (0, 7))
        self.reach("step p -7", (-7, 0))
        self.reach("step p 7\nstep p -9", (-2, 7))
        self.reach("step p 7\nstep q -9", (-9, 7))
        self.reach("step p 7\nstep q 7", (0, 7))

    def test_spots_reach_behind_their_cells(self):
        self.reach("load x 8 p", (0, 8))
        self.reach("load x 8 p-30", (-30, 0))
        self.reach("load x 1 p+30", (0, 31))
        self.reach("input x 3\nstore x p+4", (0, 7))
        self.reach("input x 3\njoin y x x\nstore y p-2", (-2, 4))
        self.reach("set x 1\nfill 16 x q+1", (0, 17))
        for word in ("copy", "up", "down"):
            self.reach(f"{word} 5 from p-9 to q+3", (-9, 8))
            self.reach(f"{word} 5 from q+3 to p-9", (-9, 8))

    def test_spots_at_the_shift_of_their_line(self):
        self.reach("step p 10\nload x 2 p-3", (0, 10))
        self.reach("step p 10\nload x 2 p+3", (0, 15))
        self.reach("step p 10\nload x 2 q+3", (0, 10))
        self.reach("step p -5\nload x 2 p-3\nstep p 20", (-8, 15))

    def test_either_way(self):
        self.reach("when p to q from 9\nstep p 4\nelse\nstep p -2\nend\nload x 2 p+1", (-2, 7))
        self.reach("when p by 2 0\nstep p 4\nend\nstep p -3", (-3, 4))
        self.reach("when p by 2 0\nelse\nstep p 4\nend\nload x 1 p", (0, 5))

    def test_ways_that_no_run_takes_count(self):
        self.reach("when p to q is 0\nwhen p to q is 1\nstep p 20\nend\nend", (0, 20))

    def test_apart_has_spots(self):
        self.reach("when apart p+3 4 q-5 6\nend", (-5, 7))
        self.reach("step p 10\nwhen apart p+3 4 q-5 6\nend", (-5, 17))
        self.reach("times 3\nwhen apart p+3 4 q 1\nstep p 5\nend\nend", (0, 17))
        self.reach("when p to q is 40\nend\nwhen p by 8 7\nend", (0, 0))

    def test_times(self):
        self.reach("times 5\nstep p 3\nend", (0, 15))
        self.reach("times 5\nstep p -3\nload x 2 p\nend", (-15, 0))
        self.reach("times 5\nload x 2 p\nstep p 3\nend", (0, 15))
        self.reach("times 5\nload x 4 p\nstep p 3\nend", (0, 16))
        self.reach("times 3\nload x 1 p-5\nstep p 2\nend", (-5, 6))
        self.reach("times 3\nload x 1 p+5\nstep p -2\nend", (-6, 6))
        self.reach("times 3\nwhen p by 2 0\nstep p 4\nelse\nstep p -2\nend\nend", (-6, 12))
        self.reach("times 2\ntimes 3\nstep p 1\nend\nstep p -5\nend\nload x 1 p", (-4, 3))

    def test_each_pointer_has_its_own_shifts(self):
        self.reach("step p 10\nstep q -10\nstep r 3\nload x 1 r", (-10, 10), ["p", "q", "r"])

    def test_against_all_ways_one_by_one(self):
        for seed in range(400):
            pointers = ["p", "q", "r"][:1 + seed % 3]
            text = Maker(seed, pointers, far=6).program(8)
            with self.subTest(text):
                program = Program(pointers, text)
                offsets = [row for row in offsets_on_all_ways(pointers, text).values()]
                self.is_tuple(program.reach, (min(min(row) for row in offsets), max(max(row) for row in offsets)))
                tests = tests_of(text)
                self.assertEqual(program.far, max([fact_far(line) for line in tests], default=0))
                self.assertEqual(program.modulus, max([fact_modulus(line) for line in tests], default=1))

    def test_many_ways_take_no_time(self):
        rows = "when p by 2 0\nstep p 30\nelse\nstep p -30\nend\n" * 5
        text = "times 5\ntimes 5\ntimes 5\n" + rows + "end\nend\nend\nload x 1 p"
        self.reach(text, (-30 * 625, 30 * 625 + 1))


class FarAndModulus(Asking):
    def test_only_tests_count(self):
        program = Program(TWO, "copy 9 from p+30 to q-30\nstep p 30")
        self.assertEqual([program.far, program.modulus], [0, 1])

    def test_the_greatest_far(self):
        program = Program(TWO, "when p to q from -9\nwhen p to q upto 4\nend\nelse\nwhen q by 8 1\nend\nend")
        self.assertEqual([program.far, program.modulus], [9, 8])
        program = Program(TWO, "when apart p-3 4 q+5 6\nend\nwhen p to q by 4 1\nend\nwhen p by 2 1\nend")
        self.assertEqual([program.far, program.modulus], [18, 4])


class Cases(Asking):
    def test_all_cases_in_the_order_of_nearness(self):
        for many in (1, 2, 3):
            for width in (0, 1, 5):
                for far in (0, 3):
                    for modulus in (1, 2, 4):
                        found = list(near_places(many, width, far, modulus))
                        self.assertEqual(found, cases(many, width + far + modulus, modulus))

    def test_far_distances_show_the_same_as_nearer_ones(self):
        for width, far, modulus in ((0, 0, 1), (3, 2, 1), (3, 2, 2), (4, 7, 8)):
            widest = width + far + modulus
            for distance in range(-60, 61):
                near = folded(distance, width, far, modulus)
                self.assertLessEqual(abs(near), widest)
                self.assertEqual((distance - near) % modulus, 0)
                if abs(distance) <= widest:
                    self.assertEqual(near, distance)
                else:
                    self.assertEqual([near > 0, abs(near) > width + far], [distance > 0, True])


if __name__ == "__main__":
    unittest.main()
