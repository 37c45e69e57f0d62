"""Points [7], [9], [10] and [11]: what runs do, and their outcomes."""

import types
import unittest

from partlymet.errors import BadCount, BadPlaces, HasRegisters, OtherPointers
from partlymet.programs import Outcome, Program
from support import Asking

TWO = ["p", "q"]
HUGE = 10 ** 999


class Deeds(Asking):
    def changed(self, text, places, expected, pointers=("p", "q")):
        outcome = Program(list(pointers), text).run(places)
        self.assertEqual(outcome.changed(), expected)
        return outcome

    def given(self, text, places, expected, pointers=("p", "q")):
        self.is_tuple(Program(list(pointers), text).run(places).given, expected)

    def test_input(self):
        self.changed("input in 3\nstore in p", [5, 0], {5: "in.0", 6: "in.1", 7: "in.2"})

    def test_load_and_store(self):
        self.changed("load x 2 p+1\nstore x q-2", [10, 0], {-2: "@11", -1: "@12"})
        self.changed("load x 4 p\nstore x q", [0, 2], {2: "@0", 3: "@1", 4: "@2", 5: "@3"})

    def test_set(self):
        self.changed("set x 0 255\nstore x p", [-1, 0], {-1: "#0", 0: "#255"})

    def test_join(self):
        self.given("input x 1\nset y 7 8\njoin z y x\ngive z", [0, 0], (("#7", "#8", "x.0"),))
        self.given("input x 2\njoin z x x\njoin w z z\ngive w", [0, 0], (("x.0", "x.1") * 4,))

    def test_part(self):
        self.given("input x 4\npart y x 1 2\npart z x 3 1\ngive y z", [0, 0], (("x.1", "x.2"), ("x.3",)))
        self.given("input x 4\npart x x 0 4\ngive x", [0, 0], (("x.0", "x.1", "x.2", "x.3"),))

    def test_each(self):
        self.given("input x 2\neach f x\neach g x\ngive x", [0, 0], (("g f x.0", "g f x.1"),))
        self.changed("set n 3\neach f n\nstore n p", [4, 0], {4: "f #3"})
        self.changed("load n 1 p-3\neach g n\neach f n\nstore n p", [0, 9], {0: "f g @-3"})

    def test_copy_reads_all_ahead_of_writing(self):
        self.changed("copy 3 from p to q", [0, 1], {1: "@0", 2: "@1", 3: "@2"})
        self.changed("copy 3 from p to q", [1, 0], {0: "@1", 1: "@2", 2: "@3"})

    def test_up_goes_from_the_first_cell_on(self):
        self.changed("up 3 from p to q", [0, 1], {1: "@0", 2: "@0", 3: "@0"})
        self.changed("up 3 from p to q", [1, 0], {0: "@1", 1: "@2", 2: "@3"})
        self.changed("up 4 from p to q", [0, 2], {2: "@0", 3: "@1", 4: "@0", 5: "@1"})

    def test_down_goes_from_the_last_cell_on(self):
        self.changed("down 3 from p to q", [0, 1], {1: "@0", 2: "@1", 3: "@2"})
        self.changed("down 3 from p to q", [1, 0], {0: "@3", 1: "@3", 2: "@3"})
        self.changed("down 4 from p to q", [2, 0], {0: "@4", 1: "@5", 2: "@4", 3: "@5"})

    def test_fill(self):
        self.changed("set x 9\nfill 3 x p-1", [0, 0], {-1: "#9", 0: "#9", 1: "#9"})
        self.changed("load x 1 p\nfill 2 x q", [5, 5], {6: "@5"})

    def test_step(self):
        self.changed("step p 30\nstep q -30\ncopy 1 from p to q", [0, 0], {-30: "@30"})
        self.changed("step p 0\ncopy 1 from p to q", [0, 5], {5: "@0"})

    def test_registers_hold_copies(self):
        self.given("load x 1 p\nset y 5\nstore y p\ngive x", [3, 3], (("@3",),))
        self.given("input x 1\njoin y x x\neach f x\ngive x y", [0, 0], (("f x.0",), ("x.0", "x.0")))
        self.given("input x 2\npart y x 0 2\neach f y\ngive x y", [0, 0], (("x.0", "x.1"), ("f x.0", "f x.1")))

    def test_when_asks_where_the_pointers_are_now(self):
        text = "set x 1\nset y 2\nstep p 2\nwhen p to q is 0\nstore x q\nelse\nstore y q\nend"
        self.changed(text, [0, 2], {2: "#1"})
        self.changed(text, [2, 2], {2: "#2"})

    def test_when_without_else(self):
        text = "set x 1\nwhen p by 2 1\nstore x p\nend"
        self.changed(text, [0, 0], {})
        self.changed(text, [-3, 0], {-3: "#1"})

    def test_times(self):
        self.changed("set x 1\ntimes 3\nstore x p\nstep p 2\nend", [0, 0], {0: "#1", 2: "#1", 4: "#1"})
        self.changed("load x 1 p\ntimes 2\ntimes 2\neach f x\nend\neach g x\nend\nstore x p", [0, 0],
                     {0: "g f f g f f @0"})

    def test_when_within_times_is_asked_each_lap(self):
        text = "set x 1\ntimes 4\nwhen p to q from 2\nstore x p\nend\nstep p 1\nend"
        self.changed(text, [0, 4], {0: "#1", 1: "#1", 2: "#1"})

    def test_give(self):
        self.given("input x 1\nset y 2\ngive y x y", [0, 0], (("#2",), ("x.0",), ("#2",)))
        self.given("input x 1", [0, 0], ())

    def test_places_of_hundreds_of_digits(self):
        self.changed("copy 1 from p to q", [HUGE, -HUGE], {-HUGE: "@" + str(HUGE)})
        self.changed("up 2 from p to q", [HUGE, HUGE + 1], {HUGE + 1: f"@{HUGE}", HUGE + 2: f"@{HUGE}"})

    def test_equal_places(self):
        self.changed("copy 4 from p to q\nup 4 from p to q\ndown 4 from q to p", [7, 7], {})


class Outcomes(Asking):
    def test_kinds(self):
        outcome = Program(TWO, "set x 1\nstore x p\nload y 1 q\ngive x y").run([3, 4])
        self.assertIsInstance(outcome, Outcome)
        self.is_tuple(outcome.given, (("#1",), ("@4",)))
        self.is_tuple(outcome.given[0], ("#1",))
        self.assertIs(type(outcome.changed()), dict)

    def test_cells(self):
        outcome = Program(TWO, "copy 2 from p to q").run([0, 5])
        self.assertEqual([outcome[5], outcome[6], outcome[7], outcome[-HUGE]], ["@0", "@1", "@7", f"@{-HUGE}"])
        self.assertEqual([5 in outcome, 6 in outcome, 7 in outcome, HUGE in outcome], [True, True, False, False])
        self.assertEqual(len(outcome), 2)

    def test_a_cell_that_holds_what_it_held_is_not_changed(self):
        outcome = Program(TWO, "load x 1 p\nset y 1\nstore y p\nstore x p").run([2, 2])
        self.assertEqual([outcome.changed(), len(outcome), 2 in outcome, outcome[2]], [{}, 0, False, "@2"])

    def test_the_dict_is_new_each_time(self):
        outcome = Program(TWO, "copy 1 from p to q").run([0, 5])
        outcome.changed().clear()
        outcome.changed()[9] = "@1"
        self.assertEqual([outcome.changed(), len(outcome), 9 in outcome], [{5: "@0"}, 1, False])

    def test_equal(self):
        one, two = Program(TWO, "copy 2 from p to q"), Program(TWO, "up 2 from p to q\nstep p 3")
        self.assertTrue(one([5, 0]) == two([5, 0]))
        self.assertFalse(one([5, 0]) != two([5, 0]))
        self.assertFalse(one([0, 1]) == two([0, 1]))
        self.assertFalse(one([5, 0]) == one([5, 1]))
        self.assertFalse(one([5, 0]) == {0: "@5", 1: "@6"})

    def test_both_parts_count(self):
        text = "input x 1\nset y 2\nstore y p\n"
        rows = [Program(["p"], text + end)([0]) for end in ("give x", "give y", "give x x", "step p 1")]
        for at, one in enumerate(rows):
            self.assertEqual([one == other for other in rows], [at == other for other in range(4)])

    def test_where_the_pointers_point_at_the_end_is_not_part_of_it(self):
        self.assertTrue(Program(["p"], "step p 5")([0]) == Program(["p"], "")([3]))

    def test_registers_of_inputs_are_the_same_in_all_programs(self):
        one = Program(["p"], "input x 3\npart y x 1 1\ngive y")([0])
        self.assertTrue(one == Program(["p"], "input a 1\ninput x 2\npart b x 1 1\ngive b")([0]))


class Calls(Asking):
    def test_a_program_is_called_like_run(self):
        program = Program(TWO, "copy 1 from p to q")
        self.assertTrue(program([0, 5]) == program.run([0, 5]))
        self.assertIsInstance(program((0, 5)), Outcome)

    def test_runs_leave_no_traces(self):
        program = Program(TWO, "input x 1\nstep p 1\nstore x p\ngive x")
        self.assertEqual([program([0, 5]).changed() for _ in range(2)], [{1: "x.0"}] * 2)

    def test_arguments_stay(self):
        places = [0, 5]
        program = Program(TWO, "step p 3\ncopy 1 from p to q")
        program.run(places)
        list(program.steps(places))
        program.reads(places)
        program.writes(places)
        self.assertEqual(places, [0, 5])

    def test_places_of_another_number(self):
        program = Program(TWO, "")
        for places in ([], [0], [0, 0, 0]):
            self.fails(BadPlaces, program.run, places)
            self.fails(BadPlaces, program, places)
            self.fails(BadPlaces, program.reads, places)
            self.fails(BadPlaces, program.writes, places)
            self.fails(BadPlaces, lambda: list(program.steps(places)))

    def test_later_changes_of_the_pointers_have_no_effect(self):
        pointers = ["p", "q"]
        program = Program(pointers, "copy 1 from p to q")
        pointers.reverse()
        self.is_tuple(program.pointers, ("p", "q"))
        self.assertEqual(program([0, 5]).changed(), {5: "@0"})

    def test_later_changes_of_the_places_have_no_effect(self):
        places = [0, 5]
        program = Program(TWO, "step p 1\nstep p 1\ncopy 1 from p to q")
        outcome = program.run(places)
        steps = program.steps(places)
        rows = [next(steps)]
        places[0] = 100
        places.append(7)
        rows += list(steps)
        self.assertEqual(outcome.changed(), {5: "@2"})
        self.assertEqual(rows, [(1, (1, 5), []), (2, (2, 5), []), (3, (2, 5), [(5, "@2")])])


class Steps(Asking):
    def test_a_generator_of_tuples(self):
        program = Program(TWO, "set x 1 2\nstore x p")
        steps = program.steps([0, 5])
        self.assertIsInstance(steps, types.GeneratorType)
        row = next(steps)
        self.is_tuple(row, (1, (0, 5), []))
        self.is_tuple(row[1], (0, 5))
        self.is_list(row[2], [])
        row = next(steps)
        self.is_tuple(row, (2, (0, 5), [(0, "#1"), (1, "#2")]))
        self.is_tuple(row[2][0], (0, "#1"))
        self.assertEqual(list(steps), [])

    def test_all_deeds_and_no_other_lines(self):
        text = "\n".join([
            "input i 1", "load x 1 p", "store x q", "set y 1", "join z x y", "part v z 1 1", "each f v",
            "copy 1 from p to q", "up 1 from p to q", "down 1 from p to q", "fill 1 y p", "step p 2",
            "when p by 2 0", "else", "end", "times 2", "end", "give v",
        ])
        rows = list(Program(TWO, text).steps([0, 9]))
        self.assertEqual([row[0] for row in rows], list(range(2, 13)))
        self.assertEqual([row[1] for row in rows], [(0, 9)] * 10 + [(2, 9)])
        written = [[], [(9, "@0")], [], [], [], [], [(9, "@0")], [(9, "@0")], [(9, "@0")], [(0, "#1")], []]
        self.assertEqual([row[2] for row in rows], written)

    def test_each_lap_and_only_what_is_done(self):
        text = "times 2\nwhen p by 2 0\nstep p 1\nelse\nstep q 2\nend\nend"
        self.assertEqual(list(Program(TWO, text).steps([0, 0])), [(3, (1, 0), []), (5, (1, 2), [])])

    def test_written_cells_ascend_and_hold_what_they_hold_then(self):
        rows = list(Program(TWO, "down 3 from p to q\nup 3 from p to q").steps([1, 0]))
        self.assertEqual(rows[0], (1, (1, 0), [(0, "@3"), (1, "@3"), (2, "@3")]))
        self.assertEqual(rows[1], (2, (1, 0), [(0, "@3"), (1, "@3"), (2, "@3")]))

    def test_cells_that_get_what_they_held_are_written(self):
        self.assertEqual(list(Program(["p"], "copy 2 from p to p").steps([3])), [(1, (3,), [(3, "@3"), (4, "@4")])])

    def test_lists_are_new_each_time(self):
        program = Program(["p"], "copy 1 from p to p+1")
        for row in program.steps([0]):
            row[2].append("more")
        self.assertEqual(list(program.steps([0])), [(1, (0,), [(1, "@0")])])

    def test_no_deeds(self):
        self.assertEqual(list(Program(["p"], "").steps([0])), [])


class ReadsAndWrites(Asking):
    def test_reads(self):
        text = "load x 2 p\nstore x q\nup 2 from q to p+4\ndown 1 from p+9 to p+9\ncopy 1 from p-1 to p"
        self.is_list(Program(TWO, text).reads([10, 30]), [9, 10, 11, 19, 30, 31])

    def test_writes(self):
        text = "set x 1\nstore x q\nfill 2 x q+5\nup 2 from q to p+4\ndown 1 from p+9 to p+9\ncopy 1 from p-1 to p"
        self.is_list(Program(TWO, text).writes([10, 30]), [10, 14, 15, 19, 30, 35, 36])

    def test_cells_written_before_are_read(self):
        program = Program(TWO, "up 3 from p to q")
        self.is_list(program.reads([0, 1]), [0, 1, 2])
        self.is_list(program.writes([0, 1]), [1, 2, 3])

    def test_only_what_is_done_counts(self):
        program = Program(TWO, "when p by 2 0\nload x 1 p\nelse\ncopy 1 from q to p\nend\nstep p 0")
        self.assertEqual([program.reads([0, 9]), program.writes([0, 9])], [[0], []])
        self.assertEqual([program.reads([1, 9]), program.writes([1, 9])], [[9], [1]])

    def test_unchanged_cells_are_written(self):
        self.is_list(Program(TWO, "copy 2 from p to q").writes([4, 4]), [4, 5])

    def test_each_cell_once_and_new_each_time(self):
        program = Program(TWO, "times 3\ncopy 2 from p to q\nend")
        program.reads([0, 5]).append(9)
        program.writes([0, 5]).append(9)
        self.is_list(program.reads([0, 5]), [0, 1])
        self.is_list(program.writes([0, 5]), [5, 6])


class Together(Asking):
    def test_one_after_another_on_one_memory(self):
        one, two = Program(TWO, "copy 2 from p to q"), Program(TWO, "load x 1 q\neach f x\nstore x p")
        self.assertEqual((one + two)([0, 5]).changed(), {0: "f @0", 5: "@0", 6: "@1"})
        self.assertEqual((two + one)([0, 5]).changed(), {0: "f @5", 5: "f @5", 6: "@1"})
        self.assertIsInstance(one + two, Program)
        self.is_tuple((one + two).pointers, ("p", "q"))

    def test_pointers_begin_at_the_first_places_again(self):
        one, two = Program(TWO, "set x 1\nstep p 3\nstore x p"), Program(TWO, "set y 2\nstore y p")
        self.assertEqual((one + two)([0, 5]).changed(), {0: "#2", 3: "#1"})
        self.assertEqual((one * 2)([0, 5]).changed(), {3: "#1"})

    def test_widths_of_registers_are_those_of_each_part(self):
        one, two = Program(TWO, "set x 1\nstore x p"), Program(TWO, "set x 1 2\nstore x q")
        self.assertEqual((one + two)([0, 5]).changed(), {0: "#1", 5: "#1", 6: "#2"})

    def test_times(self):
        one = Program(TWO, "load x 1 p\neach f x\nstore x p")
        for count in range(1, 6):
            self.assertEqual((one * count)([3, 0]).changed(), {3: "f " * count + "@3"})
        self.assertEqual((one * 2 * 3 + one)([3, 0]).changed(), {3: "f " * 7 + "@3"})

    def test_the_parts_stay(self):
        one, two = Program(TWO, "step p 1\ncopy 1 from p to q"), Program(TWO, "copy 1 from q to p")
        before = [one([0, 5]).changed(), two([0, 5]).changed(), one.reach, two.text]
        one + two, one * 3
        self.assertEqual([one([0, 5]).changed(), two([0, 5]).changed(), one.reach, two.text], before)

    def test_measures_are_those_of_all_parts(self):
        one = Program(TWO, "when p to q from 9\nstep p -4\nend")
        two = Program(TWO, "when q by 4 1\nend\nload x 8 q+5")
        for both in (one + two, two + one, (one + two) * 2, one * 2 + two):
            self.assertEqual([both.reach, both.far, both.modulus], [(-4, 13), 9, 4])
        self.assertEqual((one * 5).reach, (-4, 0))

    def test_reads_and_writes_of_all_parts(self):
        both = Program(TWO, "step p 1\ncopy 1 from p to q") + Program(TWO, "copy 1 from q+1 to p")
        self.is_list(both.reads([0, 5]), [1, 6])
        self.is_list(both.writes([0, 5]), [0, 5])

    def test_outcomes_are_without_given_rows(self):
        self.is_tuple((Program(TWO, "set x 1") * 2)([0, 0]).given, ())

    def test_other_pointers(self):
        one = Program(TWO, "")
        for pointers in (["p"], ["q", "p"], ["p", "q", "r"], ["p", "r"]):
            self.fails(OtherPointers, lambda: one + Program(pointers, ""))
        self.fails(OtherPointers, lambda: one + Program(["p"], "input x 1\ngive x"))
        self.fails(OtherPointers, lambda: Program(TWO, "input x 1") + Program(["p"], ""))

    def test_registers(self):
        one = Program(TWO, "set x 1")
        for text in ("input x 1", "set x 1\ngive x", "input x 1\ngive x"):
            two = Program(TWO, text)
            self.fails(HasRegisters, lambda: one + two)
            self.fails(HasRegisters, lambda: two + one)
            self.fails(HasRegisters, lambda: two * 2)
            self.fails(HasRegisters, lambda: two * 0)
            self.fails(HasRegisters, lambda: two * 6)

    def test_counts(self):
        one = Program(TWO, "")
        for count in (0, 6, -1, HUGE, -HUGE):
            self.fails(BadCount, lambda: one * count, count=count)

    def test_equal_programs(self):
        one = Program(TWO, "step p 1")
        self.assertTrue(one == Program(["p", "q"], "step p 1"))
        self.assertFalse(one != Program(["p", "q"], "step p 1"))
        self.assertFalse(one == Program(["q", "p"], "step p 1"))
        self.assertFalse(one == Program(TWO, "step p 1\nstep p 0"))
        self.assertFalse(one == "step p 1")


class Long(Asking):
    def test_two_thousand_lines(self):
        text = "load x 8 p\ntimes 5\ntimes 5\ntimes 5\ntimes 5\neach abcdefghijkl x\nstore x p\nend\nend\nend\nend"
        places = [HUGE]
        program = Program(["p"], text)
        outcome = program.run(places)
        self.assertEqual(outcome[HUGE + 7], "abcdefghijkl " * 625 + f"@{HUGE + 7}")
        self.assertEqual(len(list(program.steps(places))), 1251)
        self.assertEqual(program.writes(places), [HUGE + k for k in range(8)])

    def test_moves_add_up(self):
        text = "times 5\ntimes 5\ntimes 5\nstep p 30\nend\nend\nend\ncopy 1 from p to q"
        self.assertEqual(Program(TWO, text)([0, 0]).changed(), {0: "@3750"})
        self.assertEqual(Program(TWO, text).reach, (0, 3751))


if __name__ == "__main__":
    unittest.main()
