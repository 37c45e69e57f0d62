"""Point [13], and the interface of partlymet/compare.py."""

import unittest

from partlymet.compare import alike, bad_distances, parting
from partlymet.contracts import Contract
from partlymet.errors import NotTwo, OtherPointers
from partlymet.programs import Program
from plain import keeps, outcome
from support import Asking

TWO = ["p", "q"]
HUGE = 10 ** 999


def programs(*texts, pointers=("p", "q")):
    return [Program(list(pointers), text) for text in texts]


def plain_bad_distances(one, two, under, low, high):
    """The bad distances by [13], with places of all remainders modulo 8."""
    bad = []
    for distance in range(low, high):
        places = [(place, place + distance) for place in range(-8, 0)]
        kept = [pair for pair in places if keeps(under, TWO, pair)]
        if any(outcome(TWO, one, pair) != outcome(TWO, two, pair) for pair in kept):
            bad.append(distance)
    return bad


class Parting(Asking):
    def test_the_nearest_places(self):
        copy, up, down = programs("copy 3 from p to q", "up 3 from p to q", "down 3 from p to q")
        self.is_tuple(parting(copy, up), (0, 1))
        self.is_tuple(parting(copy, down), (1, 0))
        self.is_tuple(parting(up, down), (0, 1))
        self.assertIsNone(parting(copy, copy))

    def test_alike(self):
        copy, up = programs("copy 3 from p to q", "up 3 from p to q")
        self.assertIs(alike(copy, up), False)
        self.assertIs(alike(copy, copy), True)
        self.assertIs(alike(copy, up, under=Contract(TWO, "p to q upto 0")), True)
        self.assertIs(alike(copy, up, under=Contract(TWO, "p to q from 3")), True)
        self.assertIs(alike(copy, up, under=Contract(TWO, "p to q from 2")), False)
        self.assertIs(alike(copy, up, under=None), False)
        self.assertIs(alike(copy, up, under=Contract(TWO, "")), False)

    def test_under_a_contract(self):
        copy, up = programs("copy 3 from p to q", "up 3 from p to q")
        self.is_tuple(parting(copy, up, under=Contract(TWO, "p to q from 2")), (0, 2))
        self.is_tuple(parting(copy, up, under=Contract(TWO, "p by 4 3")), (3, 4))
        self.is_tuple(parting(copy, up, under=Contract(TWO, "q by 8 0\np by 2 1")), (7, 8))
        self.is_tuple(parting(copy, up, under=Contract(TWO, "p by 8 0\nq by 2 0")), (0, 2))
        self.assertIsNone(parting(copy, up, under=Contract(TWO, "apart p 3 q 3")))

    def test_no_places_keep_the_contract(self):
        one, two = programs("", "set x 1\nstore x p")
        self.assertIs(alike(one, two, under=Contract(TWO, "p to q is 0\np to q is 1")), True)
        self.assertIsNone(parting(one, two, under=Contract(TWO, "p by 2 0\np by 4 1")))

    def test_given_rows_count(self):
        one, two = programs("load x 1 p\ngive x", "load x 1 q\ngive x")
        self.is_tuple(parting(one, two), (0, 1))
        self.assertIs(alike(one, two, under=Contract(TWO, "p to q is 0")), True)

    def test_differing_only_where_far_apart(self):
        text = "set x 1\nwhen p to q from 40\nstore x p\nend"
        self.is_tuple(parting(*programs(text, "")), (0, 40))
        text = "set x 1\nwhen p to q from 40\nstep p 30\nwhen p to q from 40\nstore x p\nend\nend"
        self.is_tuple(parting(*programs(text, "")), (0, 70))

    def test_the_offsets_of_both_programs_count(self):
        for step, word, places in ((-30, "upto -40", (70, 0)), (30, "from 40", (0, 70))):
            text = f"set x 1\nstep p {step}\nwhen p to q {word}\nstore x q\nend"
            self.is_tuple(parting(*programs(text, "")), places)
            self.is_tuple(parting(*programs("", text)), places)

    def test_differing_only_at_some_remainders(self):
        text = "set x 1\nwhen p by 8 5\nwhen q by 4 3\nstore x p\nend\nend"
        self.is_tuple(parting(*programs(text, "")), (5, 3))
        text = "set x 1\nwhen p to q from 1\nwhen p to q by 8 0\nstore x p\nend\nend"
        self.is_tuple(parting(*programs(text, "")), (0, 8))

    def test_tests_of_both_programs_count(self):
        far = "set x 1\nwhen p to q from 30\nstore x p\nend"
        self.is_tuple(parting(*programs("", far)), (0, 30))
        self.is_tuple(parting(*programs("", far), under=Contract(TWO, "p to q by 8 7")), (0, 31))
        self.is_tuple(parting(*programs("", far), under=Contract(TWO, "p to q from 39")), (0, 39))

    def test_one_pointer(self):
        one, two = programs("set x 1\nstore x p", "set x 1\nwhen p by 4 2\nelse\nstore x p\nend", pointers=["p"])
        self.is_tuple(parting(one, two), (2,))
        self.is_tuple(parting(one, two, under=Contract(["p"], "p by 8 6")), (6,))
        self.assertIs(alike(one, two, under=Contract(["p"], "p by 2 1")), True)

    def test_three_pointers(self):
        pointers = ["p", "q", "r"]
        one, two = programs("copy 1 from p to q\ncopy 1 from p to r", "copy 1 from p to q\ncopy 1 from q to r",
                            pointers=pointers)
        self.assertIs(alike(one, two), True)
        one, two = programs("copy 1 from p to q\ncopy 1 from r to p", "copy 1 from r to p\ncopy 1 from p to q",
                            pointers=pointers)
        self.is_tuple(parting(one, two), (0, 1, 1))
        self.is_tuple(parting(one, two, under=Contract(pointers, "apart p 1 q 1\napart q 1 r 1")), (0, 1, 2))

    def test_programs_that_were_put_together(self):
        one, two = programs("copy 1 from p to q", "copy 1 from q to p")
        self.assertIs(alike(one + two, one), True)
        self.assertIs(alike(one + two, two + one), False)
        self.is_tuple(parting(one + two, two + one), (0, 1))
        self.assertIs(alike(one * 3, one), True)

    def test_contracts_that_were_put_together(self):
        copy, up = programs("copy 3 from p to q", "up 3 from p to q")
        lines = Contract(TWO, "\n".join(f"p to q from {-k}" for k in range(12)))
        self.is_tuple(parting(copy, up, under=lines & Contract(TWO, "p by 2 1\np to q from 2")), (1, 3))

    def test_other_pointers(self):
        one, two = Program(TWO, ""), Program(["q", "p"], "")
        three, facts = Program(["p", "q", "r"], ""), Contract(["p"], "")
        for call in (parting, alike):
            self.fails(OtherPointers, call, one, two)
            self.fails(OtherPointers, call, one, three)
            self.fails(OtherPointers, call, one, one, under=facts)
            self.fails(OtherPointers, call, one, two, under=Contract(TWO, ""))
            self.fails(OtherPointers, call, one, one, under=Contract(["q", "p"], ""))


class BadDistances(Asking):
    def test_bad_distances(self):
        copy, up, down = programs("copy 3 from p to q", "up 3 from p to q", "down 3 from p to q")
        self.is_list(bad_distances(copy, up, -5, 6), [1, 2])
        self.is_list(bad_distances(copy, down, -5, 6), [-2, -1])
        self.is_list(bad_distances(up, down, -5, 6), [-2, -1, 1, 2])
        self.is_list(bad_distances(copy, copy, -5, 6), [])

    def test_the_ends(self):
        copy, up = programs("copy 3 from p to q", "up 3 from p to q")
        self.is_list(bad_distances(copy, up, 2, 3), [2])
        self.is_list(bad_distances(copy, up, 1, 2), [1])
        self.is_list(bad_distances(copy, up, 3, 9), [])
        self.is_list(bad_distances(copy, up, 2, 2), [])
        self.is_list(bad_distances(copy, up, 5, 0), [])
        self.is_list(bad_distances(copy, up, HUGE, -HUGE), [])

    def test_under_a_contract(self):
        copy, up = programs("copy 9 from p to q", "up 9 from p to q")
        self.is_list(bad_distances(copy, up, -20, 20, under=Contract(TWO, "p to q by 4 1")), [1, 5])
        self.is_list(bad_distances(copy, up, -20, 20, under=Contract(TWO, "p by 4 1\nq by 2 0")), [1, 3, 5, 7])
        self.is_list(bad_distances(copy, up, -20, 20, under=Contract(TWO, "p to q from 5")), [5, 6, 7, 8])
        self.is_list(bad_distances(copy, up, -20, 20, under=Contract(TWO, "p to q is 5\np to q is 6")), [])

    def test_some_place_is_enough(self):
        one, two = programs("set x 1\nwhen p by 8 7\nstore x p\nend", "")
        self.is_list(bad_distances(one, two, -3, 3), [-3, -2, -1, 0, 1, 2])
        self.is_list(bad_distances(one, two, -3, 3, under=Contract(TWO, "q by 8 0")), [1])

    def test_distances_of_hundreds_of_digits(self):
        one, two = programs("set x 1\nwhen p to q by 8 3\nstore x p\nend", "")
        self.is_list(bad_distances(one, two, HUGE, HUGE + 12), [HUGE + 3, HUGE + 11])
        self.is_list(bad_distances(one, two, -HUGE, -HUGE + 12), [-HUGE + 3, -HUGE + 11])
        one, two = programs("set x 1\nwhen p to q from 40\nstore x p\nend", "")
        self.is_list(bad_distances(one, two, HUGE - 200, HUGE + 200), list(range(HUGE - 200, HUGE + 200)))
        self.is_list(bad_distances(one, two, -HUGE, -HUGE + 400), [])

    def test_four_hundred_distances_against_a_plain_search(self):
        one = "set x 1\ntimes 2\nstep p 30\nend\nwhen p to q by 4 2\nwhen apart p-20 9 q+20 9\nstore x q\nend\nend"
        two = "set x 1\nwhen p to q from -15\nwhen q by 2 1\nstore x q\nend\nend"
        first, second = programs(one, two)
        for under in ("", "p to q upto 35\nq by 4 3"):
            for low in (-200, -30, 100):
                found = bad_distances(first, second, low, low + 400, under=Contract(TWO, under))
                self.is_list(found, plain_bad_distances(one, two, under, low, low + 400))

    def test_not_two_pointers(self):
        for pointers in (["p"], ["p", "q", "r"]):
            one = Program(pointers, "")
            self.fails(NotTwo, bad_distances, one, one, 0, 3)
            self.fails(NotTwo, bad_distances, one, one, 3, 0)
            self.fails(NotTwo, bad_distances, one, one, 0, 3, under=Contract(pointers, ""))

    def test_other_pointers_come_first(self):
        one, two = Program(["p"], ""), Program(["p", "q"], "")
        self.fails(OtherPointers, bad_distances, one, two, 0, 3)
        self.fails(OtherPointers, bad_distances, two, one, 0, 3)
        self.fails(OtherPointers, bad_distances, one, one, 0, 3, under=Contract(["q"], ""))
        self.fails(OtherPointers, bad_distances, two, two, 0, 3, under=Contract(["q", "p"], ""))


if __name__ == "__main__":
    unittest.main()
