"""Points [15] and [16], and the interface of partlymet/needs.py."""

import unittest

from partlymet.compare import alike, bad_distances, parting
from partlymet.contracts import Contract
from partlymet.errors import HasRegisters, OtherPointers, Stuck, TooMany
from partlymet.needs import guarded, needs, stuck
from partlymet.programs import Program
from support import Asking

TWO = ["p", "q"]
NOWHERE = "p to q is 0\np to q is 1"
COPY, UP = Program(TWO, "copy 3 from p to q"), Program(TWO, "up 3 from p to q")
EIGHT = "p to q from 3\n" + "\n".join(f"p to q from {-k}" for k in range(7))


def facts(text, pointers=("p", "q")):
    return Contract(list(pointers), text)


class Needs(Asking):
    def told(self, p, q, options, expected, under=None):
        with self.subTest((p.text, q.text, options, under)):
            contract = None if under is None else facts(under)
            found = needs(p, q, facts(options), under=contract)
            self.is_list(found, expected)
            for row in found:
                self.assertIs(type(row), list)
            self.assertEqual(stuck(p, q, facts(options), under=contract) is None, expected != [])

    def test_least_choices(self):
        self.told(COPY, UP, "p to q upto 0", [[0]])
        self.told(COPY, UP, "p to q upto 0\np to q from 3", [[0], [1]])
        self.told(COPY, UP, "p to q upto 2\np to q from 3\np by 2 0\nq by 2 0", [[1]])
        self.told(COPY, UP, "p to q from 2\np by 2 0\nq by 2 1", [[0, 1, 2]])
        self.told(COPY, UP, "p to q from 2\np to q by 2 1\np to q by 4 3", [[0, 1], [2]])

    def test_of_different_sizes_in_the_order_of_the_indexes(self):
        self.told(COPY, UP, "p to q upto 1\np to q from 3\np by 2 0\nq by 2 0", [[0, 2, 3], [1]])
        self.told(COPY, UP, "p by 2 0\nq by 2 0\np to q from 3\np to q upto 1", [[0, 1, 3], [2]])
        self.told(COPY, UP, "p by 2 0\np to q upto 1\nq by 2 0\np by 2 1\nq by 2 1",
                  [[0, 1, 2], [0, 3], [1, 3, 4], [2, 4]])

    def test_alike_anyway(self):
        self.told(COPY, COPY, "p to q upto 0", [[]])
        self.told(COPY, UP, "p to q upto 0\np by 2 0", [[]], "p to q upto -5")
        self.told(COPY, COPY, "", [[]])

    def test_no_choice_is_enough(self):
        self.told(COPY, UP, "", [])
        self.told(COPY, UP, "p by 2 0\nq by 2 1\np to q upto 1", [])

    def test_without_options(self):
        self.told(COPY, UP, "", [[]], "p to q upto 0")

    def test_choices_that_no_places_keep(self):
        self.told(COPY, UP, "p by 2 0\np by 2 1", [[0, 1]])
        self.told(COPY, UP, "p to q is 2\np by 4 0", [[0, 1]], "q by 2 1")
        self.told(COPY, UP, "p by 2 0\np by 4 2", [[]], NOWHERE)

    def test_options_that_clash_with_the_contract(self):
        self.told(COPY, UP, "p to q upto 1\np to q is 2", [[1]], "p to q is 1")
        self.told(COPY, UP, "p to q is 2", [[0]], "p to q is 1")

    def test_one_option_is_a_line_of_the_contract(self):
        self.told(COPY, UP, "p to q upto 1\np to q from 1\np to q by 2 0", [[2]],
                  "p to q from 1\np to q upto 1")

    def test_programs_with_registers(self):
        one = Program(TWO, "input x 1\nstore x p\nload y 1 q\ngive y")
        two = Program(TWO, "input x 1\nload y 1 q\nstore x p\ngive y")
        self.told(one, two, "p to q from 1\np to q upto -1\np to q by 8 4", [[0], [1], [2]])

    def test_far_options_count_for_the_cases(self):
        # Only beyond 40 cells are both options true.
        one, two = Program(TWO, "set x 1\nstore x p"), Program(TWO, "set x 2\nstore x p")
        self.assertEqual(stuck(one, two, facts("p to q from 40\np to q by 8 7")), (0, 47))
        self.told(one, two, "p to q from 40\np to q by 8 7", [])

    def test_eight_options_and_nine(self):
        self.told(COPY, UP, EIGHT, [[0]])
        both = facts(EIGHT) & facts("p by 2 0")
        self.assertEqual([len(facts(EIGHT)), len(both)], [8, 9])
        for under in (None, facts("p to q upto 0")):
            self.fails(TooMany, needs, COPY, UP, both, under=under, limit=8)
            self.fails(TooMany, stuck, COPY, UP, both, under=under, limit=8)
            self.fails(TooMany, guarded, COPY, UP, both, under=under, limit=8)
        self.fails(TooMany, needs, COPY, COPY, both, limit=8)
        many = facts("\n".join(f"p to q from {k}" for k in range(12))) & facts("p by 2 0\nq by 2 0")
        self.fails(TooMany, needs, COPY, UP, many, limit=8)

    def test_a_contract_of_more_than_twelve_lines(self):
        many = facts("\n".join(f"p to q from {-k}" for k in range(12))) & facts("p to q upto 1\np to q by 2 0")
        self.assertEqual(len(many), 14)
        self.is_list(needs(COPY, UP, facts("p by 2 0"), under=many), [[]])

    def test_all_subsets(self):
        lines = [f"p by 8 {k}" for k in range(8)]
        one, two = Program(TWO, "set x 1\nstore x p"), Program(TWO, "set x 2\nstore x p")
        pairs = [[a, b] for a in range(8) for b in range(a + 1, 8)]
        self.told(one, two, "\n".join(lines), pairs)

    def test_other_pointers_come_first(self):
        other = Program(["q", "p"], "copy 3 from p to q")
        nine = facts(EIGHT) & facts("p by 2 0")
        for action in (needs, stuck, guarded):
            self.fails(OtherPointers, action, COPY, other, nine)
            self.fails(OtherPointers, action, other, COPY, nine)
            self.fails(OtherPointers, action, COPY, UP, facts("", ["p"]))
            self.fails(OtherPointers, action, COPY, UP, nine, under=facts("", ["q", "p"]))
            self.fails(OtherPointers, action, other, Program(["q", "p"], ""), facts(""))

    def test_new_each_time(self):
        options = facts("p to q upto 0")
        found = needs(COPY, UP, options)
        found[0].append(5)
        found.append([])
        self.is_list(needs(COPY, UP, options), [[0]])


class StuckPlaces(Asking):
    def test_the_nearest_places(self):
        self.is_tuple(stuck(COPY, UP, facts("")), (0, 1))
        self.is_tuple(stuck(COPY, UP, facts("p by 2 1")), (1, 2))
        self.is_tuple(stuck(COPY, UP, facts("p by 2 1"), under=facts("q by 2 1\nq by 4 1")), (3, 5))
        self.assertIsNone(stuck(COPY, UP, facts("p to q from 3")))
        self.assertIsNone(stuck(COPY, COPY, facts("")))
        self.assertIsNone(stuck(COPY, UP, facts(NOWHERE)))
        self.assertIsNone(stuck(COPY, UP, facts(""), under=facts(NOWHERE)))


class Guarded(Asking):
    def same_from(self, program, expected, places):
        self.assertEqual(program.run(places).changed(), expected.run(places).changed())
        self.is_list(program.reads(places), expected.reads(places))
        self.is_list(program.writes(places), expected.writes(places))
        self.assertEqual(program(places).given, ())

    def test_the_first_of_the_least_choices(self):
        program = guarded(COPY, UP, facts("p to q upto 1\np to q from 3\np by 2 0\nq by 2 0"))
        self.assertIsInstance(program, Program)
        self.is_tuple(program.pointers, ("p", "q"))
        self.assertTrue(alike(program, COPY))
        one, two = Program(TWO, "set x 1\nstore x p"), Program(TWO, "set x 2\nstore x q")
        options, under = facts("p to q is 0\np by 2 0\nq by 2 1\np by 4 2"), facts("p to q by 2 0")
        self.assertEqual(needs(one, two, options, under=under), [[1, 2], [2, 3]])
        program = guarded(one, two, options, under=under)
        for places in ([0, 0], [0, 2], [1, 3], [1, 0], [3, 3], [2, 2]):
            self.same_from(program, one, places)
        for places in ([0, 1], [-2, 7], [4, 5]):
            self.same_from(program, two, places)

    def test_q_is_done_where_the_choice_is_kept(self):
        # No places keep the contract together with the option.
        one, two = Program(TWO, "set x 1\nstore x p"), Program(TWO, "set x 2\nstore x p")
        program = guarded(one, two, facts("p by 2 0"), under=facts("p by 2 1"))
        for places, expected in (([0, 0], two), ([1, 0], one), ([-4, 9], two), ([-3, 9], one)):
            self.same_from(program, expected, places)
        self.is_tuple(parting(program, one), (0, 0))
        self.assertTrue(alike(program, one, under=facts("p by 2 1")))

    def test_all_lines_of_the_choice_count(self):
        one, two = Program(TWO, "set x 1\nstore x p"), Program(TWO, "set x 2\nstore x p")
        options = facts("q by 2 1\np by 2 0\nq by 4 2")
        program = guarded(one, two, options)
        self.assertEqual(needs(one, two, options), [[0, 2]])
        for places in ([0, 0], [0, 1], [1, 2], [0, 2]):
            self.same_from(program, one, places)

    def test_the_empty_choice_does_q_everywhere(self):
        two = Program(TWO, "copy 3 from p to q\nload x 4 p")
        program = guarded(COPY, two, facts("p by 2 0"))
        for places in ([0, 0], [1, 0]):
            self.same_from(program, two, places)
        program = guarded(COPY, UP, facts("p by 2 0"), under=facts("p to q upto 0"))
        self.same_from(program, UP, [0, 1])
        self.same_from(program, UP, [1, 2])

    def test_the_first_places_decide(self):
        one = Program(TWO, "step p 1\nset x 1\nstore x p")
        two = Program(TWO, "step p 1\nset x 2\nstore x p")
        program = guarded(one, two, facts("p by 2 0"), under=facts("p by 2 1"))
        self.assertEqual([program([0, 0]).changed(), program([1, 0]).changed()], [{1: "#2"}, {2: "#1"}])

    def test_measures(self):
        one = Program(TWO, "copy 3 from p+5 to q-2\nwhen p to q from 9\nend")
        two = Program(TWO, "copy 3 from p+5 to q-2\nload x 8 q+20\nwhen p by 4 1\nend")
        options = facts("apart p+1 2 q-3 4\nq by 8 3")
        program = guarded(one, two, options, under=facts("p to q upto 40"))
        self.is_tuple(program.reach, (-2, 28))
        self.assertEqual([program.far, program.modulus], [10, 8])
        program = guarded(two, one, facts("p to q upto -7"))
        self.assertEqual([program.reach, program.far, program.modulus], [(-2, 28), 9, 4])

    def test_the_contract_counts_for_nothing(self):
        program = guarded(COPY, UP, facts("p to q upto 0"), under=facts("p to q from -40\np by 8 3"))
        self.assertEqual([program.far, program.modulus], [0, 1])

    def test_put_together_and_guarded_again(self):
        program = guarded(COPY, UP, facts("p to q from 3"))
        shift = Program(TWO, "step p 1\nload x 1 p\neach f x\nstore x p")
        both = program + shift
        for places in ([0, 1], [0, 3], [5, 0], [0, 0]):
            self.same_from(both, COPY + shift, places)
            self.same_from(shift + program, shift + COPY, places)
            self.same_from(program * 3, COPY * 3, places)
        again = guarded(both, COPY + shift, facts("p by 2 1\np to q upto 0"))
        self.assertEqual([again.reach, again.far, again.modulus], [(0, 3), 3, 2])
        self.assertTrue(alike(again, both))
        third = guarded(again * 2, Program(TWO, "up 1 from p to p"), facts("p by 2 0\np by 2 1"))
        self.assertTrue(alike(third, again * 2))
        self.is_list(bad_distances(third, again * 2, -9, 9), [])
        self.is_list(bad_distances(program, UP, -9, 9), [1, 2])

    def test_the_first_places_of_the_whole_run_decide(self):
        one, two = Program(TWO, "set x 1\nstore x p"), Program(TWO, "set x 2\nstore x q")
        program = Program(TWO, "step p 1") + guarded(one, two, facts("p by 2 0"), under=facts("p by 2 1"))
        self.assertEqual([program([0, 5]).changed(), program([1, 5]).changed()], [{5: "#2"}, {1: "#1"}])

    def test_guards_in_guards_many_times(self):
        program = COPY
        for _ in range(400):
            program = guarded(program, UP, facts("p to q is 0"))
        self.assertTrue(alike(program, COPY))
        program = COPY
        for _ in range(40):
            program = guarded(program, program, facts("p to q is 0"))
        self.assertTrue(alike(program, COPY))

    def test_stuck(self):
        self.fails(Stuck, guarded, COPY, UP, facts("p by 2 1"), places=(1, 2))
        self.fails(Stuck, guarded, COPY, UP, facts(""), under=facts("p to q from 2"), places=(0, 2))

    def test_registers(self):
        one, two = Program(TWO, "input x 1"), Program(TWO, "set x 1\ngive x")
        for p, q in ((one, COPY), (COPY, one), (two, COPY), (COPY, two), (one, two)):
            self.fails(HasRegisters, guarded, p, q, facts(""))
            self.fails(HasRegisters, guarded, p, q, facts(EIGHT) & facts("p by 2 0"))
            self.fails(OtherPointers, guarded, p, q, facts("", ["p"]))

    def test_the_parts_stay(self):
        guarded(COPY, UP, facts("p to q from 3"))
        self.assertEqual([COPY.text, UP.text, COPY.far, UP.reach], ["copy 3 from p to q", "up 3 from p to q", 0, (0, 3)])


if __name__ == "__main__":
    unittest.main()
