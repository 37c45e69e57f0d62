"""Points [2] to [6], and the interface of partlymet/contracts.py."""

import unittest

from partlymet.contracts import Contract
from partlymet.errors import BadContract, BadPlaces, BadPointers, OtherPointers
from plain_reading import RESERVED
from support import Asking

HUGE = 10 ** 999
TWO = ["p", "q"]


class Pointers(Asking):
    def test_one_to_three_different_names(self):
        for pointers in (["p"], ["p", "q"], ["p", "q", "r"], ["abcdefghijkl"]):
            self.is_tuple(Contract(pointers, "").pointers, tuple(pointers))

    def test_a_tuple_may_stand_for_the_list(self):
        self.is_tuple(Contract(("p", "q"), "").pointers, ("p", "q"))

    def test_no_pointers(self):
        self.fails(BadPointers, Contract, [], "", index=0)

    def test_no_names(self):
        for word in ("", "P", "p1", "p q", " p", "p ", "p+1", "abcdefghijklm", "-", "p\n", *RESERVED):
            with self.subTest(word):
                self.fails(BadPointers, Contract, [word], "", index=0)
                self.fails(BadPointers, Contract, ["p", word], "", index=1)

    def test_words_that_only_look_reserved_are_names(self):
        for word in ("in", "loads", "bys", "a", "by" * 6):
            self.is_tuple(Contract([word], "").pointers, (word,))

    def test_twice(self):
        self.fails(BadPointers, Contract, ["p", "p"], "", index=1)
        self.fails(BadPointers, Contract, ["p", "q", "p"], "", index=2)

    def test_the_fourth_one(self):
        self.fails(BadPointers, Contract, ["p", "q", "r", "s"], "", index=3)
        self.fails(BadPointers, Contract, ["p", "q", "r", "s", "t"], "", index=3)

    def test_the_first_wrong_one_is_told(self):
        self.fails(BadPointers, Contract, ["p", "q", "q", "s"], "", index=2)
        self.fails(BadPointers, Contract, ["p", "up", "p", "s"], "", index=1)

    def test_pointers_are_looked_at_ahead_of_lines(self):
        self.fails(BadPointers, Contract, ["p", "p"], "no fact", index=1)

    def test_later_changes_of_the_list_have_no_effect(self):
        pointers = ["p", "q"]
        facts = Contract(pointers, "p to q is 0")
        pointers.append("r")
        pointers[0] = "x"
        self.is_tuple(facts.pointers, ("p", "q"))
        self.assertTrue(facts.keeps([1, 1]))


class Reading(Asking):
    def right(self, line, pointers=("p", "q", "r")):
        self.is_tuple(Contract(list(pointers), line).lines, (line,))

    def wrong(self, line, pointers=("p", "q", "r")):
        with self.subTest(line):
            self.fails(BadContract, Contract, list(pointers), line, line=1)
            self.fails(BadContract, Contract, list(pointers), "p by 2 0\n" + line, line=2)
            self.fails(BadContract, Contract(list(pointers), "").follows, line, line=1)

    def test_the_empty_text_has_no_facts(self):
        facts = Contract(TWO, "")
        self.is_tuple(facts.lines, ())
        self.assertEqual([facts.text, facts.far, facts.modulus, len(facts)], ["", 0, 1, 0])

    def test_attributes(self):
        text = "p to q from -3\napart p 1 q+2 3"
        facts = Contract(TWO, text)
        self.is_tuple(facts.lines, ("p to q from -3", "apart p 1 q+2 3"))
        self.assertEqual(facts.text, text)

    def test_distances(self):
        for word in ("from", "upto", "is"):
            for number in ("-40", "-1", "0", "9", "40"):
                self.right(f"p to q {word} {number}")
                self.right(f"r to p {word} {number}")
            for number in ("-41", "41", "-0", "00", "01", "-01", "+1", "", "-", "x", "1.0", "4" * 5000):
                self.wrong(f"p to q {word} {number}")
            self.wrong(f"p to p {word} 0")
            self.wrong(f"p to s {word} 0")
            self.wrong(f"s to p {word} 0")
            self.wrong(f"p to q {word}")
            self.wrong(f"p to q {word} 1 1")
            self.wrong(f"p+1 to q {word} 1")
        self.wrong("p to q below 1")
        self.wrong("p from q is 1")
        self.wrong("p q is 1")

    def test_apart(self):
        for line in ("apart p 1 q 16", "apart p+1 16 q-30 1", "apart r-1 2 p+30 3"):
            self.right(line)
        for number in ("0", "17", "-1", "-0", "01", "", "x"):
            self.wrong(f"apart p {number} q 1")
            self.wrong(f"apart p 1 q {number}")
        spots = (
            "p+0", "p-0", "p+31", "p-31", "p+01", "p+-1", "p--1", "p+", "p-", "+1", "1", "", "s", "p+1+1", "p-1+1",
            "p+1-1", "P", "p +1", "p+" + "1" * 5000,
        )
        for spot in spots:
            self.wrong(f"apart {spot} 1 q 1")
            self.wrong(f"apart q 1 {spot} 1")
        self.wrong("apart p 1 p 1")
        self.wrong("apart p 1 p+9 1")
        self.wrong("apart p 1 q")
        self.wrong("apart p 1 q 1 1")
        self.wrong("apart p q")

    def test_remainders(self):
        for modulus in (2, 4, 8):
            for remainder in range(modulus):
                self.right(f"p by {modulus} {remainder}")
                self.right(f"p to r by {modulus} {remainder}")
            for remainder in (str(modulus), "-1", "-0", "00", "", "x"):
                self.wrong(f"p by {modulus} {remainder}")
                self.wrong(f"p to q by {modulus} {remainder}")
        for modulus in ("0", "1", "3", "5", "6", "7", "9", "16", "-2", "02", ""):
            self.wrong(f"p by {modulus} 0")
            self.wrong(f"p to q by {modulus} 0")
        self.wrong("p to p by 2 0")
        self.wrong("s by 2 0")
        self.wrong("p to s by 2 0")
        self.wrong("s to p by 2 0")
        self.wrong("p by 2")
        self.wrong("p by 2 0 0")
        self.wrong("p to q by 2")
        self.wrong("p+1 by 2 0")

    def test_empty_words(self):
        self.fails(BadContract, Contract(TWO, "").follows, "", line=1)
        for line in (" ", " p by 2 0", "p by 2 0 ", "p  by 2 0", "p by  2 0", "p to  q is 0", "apart  p 1 q 1"):
            self.wrong(line)

    def test_an_empty_line_is_wrong(self):
        self.fails(BadContract, Contract, TWO, "\n", line=1)
        self.fails(BadContract, Contract, TWO, "p by 2 0\n", line=2)
        self.fails(BadContract, Contract, TWO, "p by 2 0\n\nq by 2 0", line=2)

    def test_a_text_of_two_lines_is_no_fact(self):
        self.fails(BadContract, Contract(TWO, "").follows, "p by 2 0\nq by 2 0", line=1)
        self.fails(BadContract, Contract(TWO, "").follows, "p by 2 0\n", line=1)

    def test_with_one_pointer_there_are_only_its_remainders(self):
        self.right("p by 8 7", ["p"])
        self.fails(BadContract, Contract, ["p"], "p to q is 0", line=1)
        self.fails(BadContract, Contract, ["p"], "apart p 1 p 1", line=1)

    def test_lines_twice(self):
        self.fails(BadContract, Contract, TWO, "p by 2 0\nq by 2 0\np by 2 0", line=3)
        self.fails(BadContract, Contract, TWO, "p by 2 0\np by 2 0", line=2)

    def test_facts_that_say_the_same_are_different_lines(self):
        self.assertEqual(len(Contract(TWO, "p to q is 0\nq to p is 0\np by 2 0\np by 4 0")), 4)

    def test_twelve_lines_but_not_thirteen(self):
        lines = [f"p to q from {k}" for k in range(14)]
        self.assertEqual(len(Contract(TWO, "\n".join(lines[:12]))), 12)
        self.fails(BadContract, Contract, TWO, "\n".join(lines[:13]), line=13)
        self.fails(BadContract, Contract, TWO, "\n".join(lines), line=13)

    def test_the_first_wrong_line_is_told(self):
        lines = [f"p to q from {k}" for k in range(14)]
        self.fails(BadContract, Contract, TWO, "\n".join([*lines[:11], "no", *lines[11:]]), line=12)
        self.fails(BadContract, Contract, TWO, "\n".join([lines[0], lines[0], "no", *lines[1:]]), line=2)


class Truth(Asking):
    def truth(self, line, cases):
        facts = Contract(TWO, line)
        for places, expected in cases:
            with self.subTest((line, places)):
                self.assertIs(facts.keeps(list(places)), expected)
                self.assertIs(facts.keeps(places), expected)
                self.is_list(facts.broken(places), [] if expected else [0])

    def test_from_upto_is(self):
        self.truth("p to q from 3", [((0, 3), True), ((0, 2), False), ((3, 0), False), ((-9, 9), True)])
        self.truth("p to q upto 3", [((0, 3), True), ((0, 4), False), ((9, 0), True), ((HUGE, 0), True)])
        self.truth("p to q is -3", [((3, 0), True), ((0, 3), False), ((HUGE + 3, HUGE), True), ((HUGE, HUGE), False)])
        self.truth("q to p is -3", [((0, 3), True), ((3, 0), False)])

    def test_apart(self):
        self.truth("apart p 2 q 3", [
            ((0, 2), True), ((0, 1), False), ((0, 0), False), ((2, 0), False), ((3, 0), True), ((-HUGE, HUGE), True),
        ])
        self.truth("apart p+4 2 q-1 3", [((0, 7), True), ((0, 6), False), ((0, 3), False), ((0, 2), True)])

    def test_by(self):
        self.truth("p by 4 1", [((1, 0), True), ((-3, 0), True), ((0, 1), False), ((4 * HUGE + 1, 0), True)])
        self.truth("p by 8 0", [((0, 1), True), ((-8, 1), True), ((-4, 1), False)])
        self.truth("p to q by 4 3", [((0, 3), True), ((1, 0), True), ((0, 1), False), ((5, 8), True)])

    def test_broken_tells_all_false_lines(self):
        facts = Contract(TWO, "p by 2 0\nq by 2 0\np to q from 1\np to q upto 5")
        self.is_list(facts.broken([0, 2]), [])
        self.is_list(facts.broken([1, 1]), [0, 1, 2])
        self.is_list(facts.broken([0, 7]), [1, 3])
        self.assertIs(facts.keeps([0, 7]), False)
        self.assertIs(facts.keeps([0, 2]), True)

    def test_no_facts_are_kept_everywhere(self):
        self.assertIs(Contract(TWO, "").keeps([-HUGE, HUGE]), True)
        self.is_list(Contract(TWO, "").broken([1, 1]), [])

    def test_places_of_another_number(self):
        facts = Contract(TWO, "p by 2 0")
        for places in ([], [0], [0, 0, 0], (1,)):
            self.fails(BadPlaces, facts.keeps, places)
            self.fails(BadPlaces, facts.broken, places)

    def test_results_are_new_and_arguments_stay(self):
        facts = Contract(TWO, "p by 2 0")
        places = [1, 0]
        facts.broken(places).append(5)
        self.is_list(facts.broken(places), [0])
        self.assertEqual(places, [1, 0])


class Measures(Asking):
    def test_far(self):
        for line, far in (
            ("p to q from -7", 7), ("p to q upto 40", 40), ("p to q is 0", 0), ("apart p 4 q 5", 9),
            ("apart p+3 4 q-30 5", 42), ("apart p-30 16 q+30 16", 92), ("p by 8 7", 0), ("p to q by 4 3", 0),
        ):
            with self.subTest(line):
                self.assertEqual(Contract(TWO, line).far, far)
        self.assertEqual(Contract(TWO, "p to q is 2\np to q from -9\np by 8 1").far, 9)

    def test_modulus(self):
        for text, modulus in (
            ("p to q is 8", 1), ("p by 2 1", 2), ("p to q by 4 1", 4), ("p by 2 0\nq by 8 0\np by 4 0", 8),
        ):
            self.assertEqual(Contract(TWO, text).modulus, modulus)


class Nearest(Asking):
    def nearest(self, pointers, text, expected):
        with self.subTest(text):
            found = Contract(pointers, text).nearest()
            if expected is None:
                self.assertIsNone(found)
            else:
                self.is_tuple(found, expected)

    def test_least_spread_first(self):
        self.nearest(TWO, "", (0, 0))
        self.nearest(["p"], "", (0,))
        self.nearest(TWO, "p to q from 3", (0, 3))
        self.nearest(TWO, "p to q upto -40", (40, 0))
        self.nearest(TWO, "apart p 4 q 2", (2, 0))
        self.nearest(TWO, "apart p 2 q 4", (0, 2))
        self.nearest(["p", "q", "r"], "p to q is 3\nq to r is -5", (2, 5, 0))

    def test_then_the_smallest_least_place_that_is_not_negative(self):
        self.nearest(["p"], "p by 8 7", (7,))
        self.nearest(TWO, "p by 4 2\nq by 4 1", (2, 1))
        self.nearest(TWO, "p to q is 1\np by 8 7", (7, 8))
        self.nearest(TWO, "apart p 4 q 4\np by 4 2\nq by 4 1", (6, 1))

    def test_then_the_smallest_places_in_the_order_of_the_pointers(self):
        self.nearest(TWO, "apart p 1 q 1", (0, 1))
        self.nearest(["p", "q", "r"], "apart p 1 q 1\napart q 1 r 1\napart p 1 r 1", (0, 1, 2))
        self.nearest(["p", "q", "r"], "apart p 1 q 1\napart q 1 r 1\napart p 1 r 1\np to q upto 0", (1, 0, 2))

    def test_none(self):
        self.nearest(TWO, "p to q from 1\np to q upto 0", None)
        self.nearest(["p"], "p by 2 0\np by 4 1", None)
        self.nearest(TWO, "p by 2 0\nq by 2 1\np to q is 0", None)

    def test_spread_of_three_may_take_both_gaps(self):
        self.nearest(["p", "q", "r"], "p to q from 16\nq to r from 16", (0, 16, 32))


class Following(Asking):
    def test_follows(self):
        facts = Contract(TWO, "p to q from 3\np by 4 0\nq by 4 0")
        for line, expected in (
            ("p to q from 4", True), ("p to q from 5", False), ("p to q from -40", True), ("apart p 4 q 9", True),
            ("apart p 5 q 1", False), ("p to q by 2 0", True), ("p to q by 8 0", False), ("q to p upto -4", True),
            ("p by 2 0", True), ("p by 8 0", False), ("p to q is 4", False),
        ):
            with self.subTest(line):
                self.assertIs(facts.follows(line), expected)

    def test_everything_follows_from_what_no_places_keep(self):
        self.assertIs(Contract(TWO, "p to q is 0\np to q is 1").follows("p to q is 7"), True)

    def test_what_is_always_true(self):
        self.assertIs(Contract(TWO, "").follows("p to q from -40"), False)
        self.assertIs(Contract(["p"], "").follows("p by 2 0"), False)
        self.assertIs(Contract(["p", "q", "r"], "p to q from 8\nq to r from 8").follows("p to r from 16"), True)
        self.assertIs(Contract(["p", "q", "r"], "p to q from 8\nq to r from 8").follows("p to r from 17"), False)

    def test_idle(self):
        self.is_list(Contract(TWO, "").idle(), [])
        self.is_list(Contract(TWO, "p by 2 0").idle(), [])
        self.is_list(Contract(TWO, "p to q from 3\np to q from 1").idle(), [1])
        self.is_list(Contract(TWO, "p by 2 0\np by 4 2\nq by 2 1").idle(), [0])

    def test_idle_tells_each_line_by_itself(self):
        self.is_list(Contract(TWO, "p to q is 0\nq to p is 0").idle(), [0, 1])
        self.is_list(Contract(TWO, "p to q from 1\np to q upto 0\np by 2 0").idle(), [2])

    def test_implies_and_same(self):
        one, two = Contract(TWO, "p to q is 4"), Contract(TWO, "apart p 4 q 9\np to q from 0")
        self.assertIs(one.implies(two), True)
        self.assertIs(two.implies(one), False)
        self.assertIs(one.same(two), False)
        self.assertIs(one.same(Contract(TWO, "q to p is -4")), True)
        self.assertIs(Contract(TWO, "").same(Contract(TWO, "")), True)
        self.assertIs(two.implies(Contract(TWO, "")), True)
        nothing = Contract(TWO, "p to q is 0\np to q is 1")
        self.assertIs(nothing.implies(one), True)
        self.assertIs(nothing.same(Contract(TWO, "p by 2 0\np by 2 1")), True)

    def test_implies_needs_the_far_and_modulus_of_both(self):
        self.assertIs(Contract(TWO, "").implies(Contract(TWO, "p to q upto 40")), False)
        self.assertIs(Contract(["p"], "p by 4 3").implies(Contract(["p"], "p by 8 3")), False)

    def test_other_pointers(self):
        facts = Contract(TWO, "")
        for pointers in (["p"], ["q", "p"], ["p", "r"], ["p", "q", "r"]):
            other = Contract(pointers, "")
            self.fails(OtherPointers, facts.implies, other)
            self.fails(OtherPointers, facts.same, other)
            self.fails(OtherPointers, facts.__and__, other)
            self.fails(OtherPointers, lambda: other & facts)


class Together(Asking):
    def test_lines_of_both(self):
        one = Contract(TWO, "p by 2 0\np to q from 9")
        two = Contract(TWO, "p to q upto 20\np by 2 0\nq by 8 3")
        both = one & two
        self.assertIsInstance(both, Contract)
        self.is_tuple(both.lines, ("p by 2 0", "p to q from 9", "p to q upto 20", "q by 8 3"))
        self.assertEqual(both.text, "p by 2 0\np to q from 9\np to q upto 20\nq by 8 3")
        self.is_tuple(both.pointers, ("p", "q"))
        self.assertEqual([both.far, both.modulus, len(both)], [20, 8, 4])
        self.is_list(both.broken([1, 30]), [0, 2, 3])
        self.is_tuple(both.nearest(), (2, 11))
        self.assertEqual([one.text, two.lines[0]], ["p by 2 0\np to q from 9", "p to q upto 20"])

    def test_with_nothing(self):
        nothing, one = Contract(TWO, ""), Contract(TWO, "p by 2 0")
        self.assertEqual([(nothing & one).text, (one & nothing).text], ["p by 2 0", "p by 2 0"])
        self.assertEqual((nothing & nothing).text, "")
        self.assertEqual([(nothing & nothing).far, (nothing & nothing).modulus], [0, 1])
        self.assertEqual((one & one).lines, ("p by 2 0",))

    def test_more_than_twelve_lines(self):
        one = Contract(TWO, "\n".join(f"p to q from {k}" for k in range(12)))
        two = Contract(TWO, "\n".join(f"p to q upto {k}" for k in range(9, 21)))
        both = one & two
        self.assertEqual(len(both), 24)
        self.assertIsNone(both.nearest())
        self.assertEqual(both.broken([0, 10]), [11, 12])
        self.is_tuple((one & Contract(TWO, "p to q upto 11")).nearest(), (0, 11))
        self.is_list((one & two).idle(), [k for k in range(24)])
        self.is_list((one & Contract(TWO, "p by 2 1")).idle(), list(range(11)))

    def test_lines_one_by_one(self):
        facts = Contract(TWO, "p by 2 0\np to q from 9")
        self.assertEqual(list(facts), ["p by 2 0", "p to q from 9"])
        self.assertEqual([line for line in facts], ["p by 2 0", "p to q from 9"])
        self.assertEqual(len(facts), 2)


if __name__ == "__main__":
    unittest.main()
