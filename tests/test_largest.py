"""Questions about all places at the largest sizes that [2] lets, against a plain search."""

import unittest

from partlymet.compare import alike, bad_distances, parting
from partlymet.contracts import Contract
from partlymet.programs import Program
from plain import Walker, all_cases, fact_is_true, first_parting, keeps, outcome
from support import Asking

ONE = ["p"]
TWO = ["p", "q"]
THREE = ["p", "q", "r"]


def many_cases(pointers, programs, contracts):
    """The number of cases of [12], as it stands there."""
    reach = [0] + [end for program in programs for end in program.reach]
    both = [*programs, *contracts]
    modulus = max(thing.modulus for thing in both)
    gap = 1 + max(reach) - min(reach) + max(thing.far for thing in both)
    ways = {1: 1, 2: 2, 3: 6}[len(pointers)]
    return modulus * ways * (gap + modulus) ** (len(pointers) - 1)


class Programs(Asking):
    """Each with runs of 60 lines, a pair that differs and a pair that does not."""

    def sizes(self, pointers, programs, contracts, least):
        cases = many_cases(pointers, programs, contracts)
        self.assertLessEqual(cases, 2000)
        self.assertGreaterEqual(cases, least)
        for program in programs:
            for places in ([0, 1, 2], [7, 4, 5], [3, 90, -90]):
                lines = Walker(pointers, program.text, places[:len(pointers)]).lines_done
                self.assertLessEqual(lines, 60)
                self.assertGreaterEqual(lines, 45)

    def question(self, pointers, one, two, under, least):
        first, second, facts = Program(pointers, one), Program(pointers, two), Contract(pointers, under)
        self.sizes(pointers, [first, second], [facts], least)
        found = parting(first, second, under=facts)
        self.assertEqual(found, first_parting(pointers, one, two, under))
        self.assertEqual(alike(first, second, under=facts), found is None)
        return found

    def test_one_pointer(self):
        body = "times 5\nup 16 from p to p+3\ndown 16 from p+20 to p-9\ncopy 9 from p-30 to p+1\nset x 1\n"
        body += "fill 16 x p\nload y 8 p\neach f y\nstore y p+30\nstep p 1\nend"
        test = "\nset z 2\nwhen p by 8 4\nfill 16 z p\nend"
        self.assertEqual(self.question(ONE, body, body + test, "p by 2 1", 8), (7,))
        self.assertIsNone(self.question(ONE, body, body + test, "p by 4 1", 8))

    def test_two_pointers_that_are_far_apart(self):
        steps = "times 5\n" + "step p 30\n" * 3 + "step q -30\n" * 3 + "end\n"
        copies = "\n".join(["up 16 from p to q+30", "down 8 from q to p-30", "copy 16 from p to q"] * 5)
        self.assertIsNone(self.question(TWO, steps + copies, steps + copies, "p to q from 40", 1900))
        test = "\nset z 1\nwhen p to q from -5\nstore z p\nend"
        found = self.question(TWO, steps + copies + test, steps + copies, "", 1800)
        self.assertEqual(found, (0, 895))

    def test_two_pointers_with_remainders(self):
        body = "times 5\nup 16 from p+20 to q-18\nstep p 3\nstep q -2\n"
        body += "copy 7 from p to q\ndown 16 from q to p\nup 8 from q to p\nset y 3\nfill 9 y q+5\nend\n"
        body += "load x 8 q\neach f x\nstore x p"
        test = "\nwhen p to q by 8 5\nwhen p by 8 3\nwhen p to q from 40\nstore x q\nend\nend\nend"
        self.assertIsNone(self.question(TWO, body, body + test, "p to q by 4 3", 1900))
        self.assertEqual(self.question(TWO, body, body + test, "", 1900), (4, 74))

    def test_three_pointers(self):
        body = "times 5\n" + "up 8 from p to q\ndown 8 from r to p\ncopy 8 from q to r\n" * 3 + "end\n"
        end = "up 16 from p to q\ncopy 16 from q to r\nset x 1\nfill 16 x r"
        self.assertIsNone(self.question(THREE, body + end, body + end, "", 1900))
        other = end.replace("fill 16", "fill 15")
        self.assertEqual(self.question(THREE, body + end, body + other, "", 1900), (0, 0, 0))
        body += "load x 8 q\nstore x r"
        under = "apart p 1 q 7\nq to r from 3"
        self.assertIsNotNone(self.question(THREE, body, body.replace("up", "copy"), under, 1900))

    def test_three_pointers_with_remainders(self):
        text = "times 5\n" + "up 3 from p to q\ndown 3 from r to p\ncopy 3 from q to r\n" * 3 + "end\nset x 1\n"
        text += "fill 3 x q"
        test = "\nset y 2\nwhen p by 4 3\nwhen q by 4 2\nwhen r by 2 1\nstore y r\nend\nend\nend"
        self.assertEqual(self.question(THREE, text, text + test, "", 1500), (3, 2, 3))
        self.assertIsNone(self.question(THREE, text, text + test, "p to q by 2 0", 1500))

    def test_bad_distances(self):
        one = "times 5\n" + "up 16 from p to q\ndown 16 from q+30 to p-15\n" * 3 + "step q 7\nstep p -5\nend\n"
        one += "load x 1 p\neach f x\neach f x\neach f x"
        two = one + "\nwhen p to q by 8 6\nwhen q by 8 1\nstore x q\nend\nend"
        first, second = Program(TWO, one), Program(TWO, two)
        self.sizes(TWO, [first, second], [], 1800)
        bad = []
        for distance in range(-200, 200):
            places = [(place, place + distance) for place in range(8)]
            if any(outcome(TWO, one, pair) != outcome(TWO, two, pair) for pair in places):
                bad.append(distance)
        self.assertGreater(len(bad), 10)
        self.is_list(bad_distances(first, second, -200, 200), bad)
        far = 16 * 10 ** 900
        # Behind all loops the distance has grown by 60.
        self.is_list(bad_distances(first, second, far, far + 400), [far + k for k in range(400) if k % 8 == 2])


class Contracts(Asking):
    def questions(self, pointers, text, fact, other, least):
        facts, second = Contract(pointers, text), Contract(pointers, other)
        for things in ([facts], [facts, second], [facts, Contract(pointers, fact)]):
            cases = many_cases(pointers, [], things)
            self.assertLessEqual(cases, 2000)
            self.assertGreaterEqual(cases, least)
        rows = all_cases(pointers, [], [text, other, fact])
        kept = [row for row in rows if keeps(text, pointers, row)]
        self.assertEqual(facts.nearest(), kept[0] if kept else None)
        self.assertIs(facts.follows(fact), all(fact_is_true(fact, pointers, row) for row in kept))
        self.assertIs(facts.implies(second), all(keeps(other, pointers, row) for row in kept))
        self.assertIs(facts.same(second), kept == [row for row in rows if keeps(other, pointers, row)])
        alone = {tuple(false) for false in map(facts.broken, rows) if len(false) == 1}
        self.is_list(facts.idle(), [index for index in range(len(facts)) if (index,) not in alone])
        return kept

    def test_one_pointer(self):
        lines = [f"p by 8 {k}" for k in range(2)] + [f"p by 4 {k}" for k in range(2)] + ["p by 2 0", "p by 2 1"]
        self.assertEqual(self.questions(ONE, "\n".join(lines), "p by 8 7", "p by 2 1", 8), [])
        self.assertEqual(self.questions(ONE, "p by 8 7\np by 4 3\np by 2 1", "p by 2 0", "p by 8 7", 8), [(7,)])

    def test_two_pointers(self):
        lines = ["apart p+30 16 q-30 16", "p by 8 7", "q by 4 2", "p to q by 2 1", "p to q from 40"]
        lines += [f"p to q from {k}" for k in range(30, 37)]
        kept = self.questions(TWO, "\n".join(lines), "p to q by 4 3", "p to q from 40\nq by 2 0", 1600)
        self.assertEqual(kept[0], (7, 50))
        kept = self.questions(TWO, "\n".join(lines[1:4] + lines[:1]), "p to q by 8 3", "p by 2 1", 1600)
        self.assertEqual(kept[0], (7, 6))

    def test_three_pointers(self):
        text = "apart p 8 q 8\napart q 8 r 8\napart r 8 p 8\np to q from -16\nq to r from -16\nr to p from -16"
        kept = self.questions(THREE, text, "p to r upto 16", "p to r from -16\nr to p from -16\nq to p upto 16", 1900)
        self.assertEqual(kept[0], (0, 8, 16))

    def test_three_pointers_with_remainders(self):
        text = "apart p 2 q 2\napart q+1 1 r 2\np by 4 3\nq by 4 2\np to r by 2 1\nr to q from -4\nr to q upto 3"
        kept = self.questions(THREE, text, "q by 2 0", "p by 2 1\nr by 2 0\nq by 2 0", 1900)
        self.assertGreater(len(kept), 10)


if __name__ == "__main__":
    unittest.main()
