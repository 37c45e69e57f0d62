"""The package against the plain second reading, over texts that are made by chance."""

import unittest

from made import Maker
from partlymet.compare import alike, bad_distances, parting
from partlymet.contracts import Contract
from partlymet.errors import BadContract, BadProgram
from partlymet.programs import Program
from plain import Walker, all_cases, fact_is_true, first_parting, keeps, lines_of, outcome
from plain_reading import RESERVED, wrong_fact, wrong_line
from support import Asking

NAMES = ("p", "q", "r")
WORDS = [
    *RESERVED, *"pqrsxyabfgA", "0", "1", "2", "3", "4", "8", "9", "16", "17", "30", "31", "40", "41", "-1", "-0", "00",
    "01", "-30", "-31", "-40", "-41", "255", "256", "", "p+1", "q-1", "p+0", "q+30", "q+31", "p-31", "p+01", "p+-1",
    "p--1", "+1", "p+", "p-", "-", "abcdefghijkl", "abcdefghijklm", "9" * 5000, "p+" + "9" * 5000,
]
LINES = [
    "end", "else", "times 2", "when p by 2 0", "", "give a", "input zz 3", "set z 1", "join z a b", "part z a 0 1",
    "fill 3 a p", "store a p", "call f p", "step p 1",
]


def small(seed):
    """A maker over one to three pointers; the more there are, the nearer together all is."""
    pointers = list(NAMES[:1 + seed % 3])
    return Maker(seed, pointers, 2, (2,)) if len(pointers) == 3 else Maker(seed, pointers, 3, (2, 4))


def broken_words(pick, line):
    """A line with another word, one more or one less."""
    words = line.split(" ")
    at = pick.randrange(len(words))
    kind = pick.random()
    if kind < 0.2:
        words.insert(at, pick.choice(WORDS))
    elif kind < 0.3:
        del words[at]
    else:
        words[at] = pick.choice(WORDS)
    return " ".join(words)


def changed_text(pick, text):
    """A program text with a line left out, two lines exchanged, or another way to copy."""
    lines = lines_of(text)
    at = pick.randrange(len(lines)) if lines else 0
    kind = pick.random()
    if lines and kind < 0.4:
        del lines[at]
    elif kind < 0.7:
        lines[at:at + 2] = lines[at:at + 2][::-1]
    elif lines:
        words = lines[at].split(" ")
        if words[0] in ("copy", "up", "down"):
            words[0] = pick.choice(["copy", "up", "down"])
        lines[at] = " ".join(words)
    return "\n".join(lines)


def pairs(many):
    """Made pairs of right programs, a contract, and the maker; the second one is like the first one."""
    for seed in range(many):
        maker = small(seed)
        one = maker.program(4)
        two = changed_text(maker.chance, one)
        if wrong_line(maker.pointers, two) is None:
            yield maker, one, two, maker.contract()


class Reading(Asking):
    def line_told(self, kind, error, pointers, text):
        try:
            kind(pointers, text)
        except error as caught:
            return caught.line
        return None

    def test_right_programs(self):
        for seed in range(300):
            maker = small(seed)
            text = maker.program(12)
            with self.subTest(text):
                self.assertIsNone(wrong_line(maker.pointers, text))
                self.assertEqual(Program(maker.pointers, text).text, text)

    def test_broken_programs(self):
        wrong = 0
        for seed in range(4000):
            maker = small(seed)
            pick = maker.chance
            lines = maker.program(seed % 25 + 1).split("\n")
            for _ in range(pick.randint(1, 3)):
                at = pick.randrange(len(lines)) if lines else 0
                kind = pick.random()
                if kind < 0.15:
                    del lines[at:at + 1]
                elif kind < 0.4:
                    lines.insert(at, pick.choice([*LINES, *lines]))
                elif lines:
                    lines[at] = broken_words(pick, lines[at])
            text = "\n".join(lines)
            expected = wrong_line(maker.pointers, text)
            wrong += expected is not None
            with self.subTest(text):
                self.assertEqual(self.line_told(Program, BadProgram, maker.pointers, text), expected)
        self.assertGreater(wrong, 2000)

    def test_broken_contracts(self):
        wrong = 0
        for seed in range(3000):
            maker = small(seed)
            pick = maker.chance
            lines = [maker.fact() for _ in range(pick.randint(0, 14))]
            lines = [broken_words(pick, line) if pick.random() < 0.05 else line for line in lines]
            text = "\n".join(lines)
            expected = wrong_fact(maker.pointers, text)
            wrong += expected is not None
            with self.subTest(text):
                self.assertEqual(self.line_told(Contract, BadContract, maker.pointers, text), expected)
        self.assertGreater(wrong, 1000)


class Running(Asking):
    def test_runs(self):
        for seed in range(600):
            maker = small(seed)
            text = maker.program(10)
            program = Program(maker.pointers, text)
            places = [maker.chance.randint(-9, 9) for _ in maker.pointers]
            walker = Walker(maker.pointers, text, places)
            with self.subTest((text, places)):
                found = program.run(places)
                self.is_tuple(found.given, walker.given)
                self.assertEqual(found.changed(), walker.changed())
                self.is_list(program.reads(places), sorted(walker.read))
                self.is_list(program.writes(places), sorted(walker.written))

    def test_put_together(self):
        for seed in range(300):
            maker = small(seed)
            one, two = maker.program(5, registers=False), maker.program(5, registers=False)
            places = [maker.chance.randint(-5, 5) for _ in maker.pointers]
            cells = {}
            Walker(maker.pointers, one, places, cells)
            for _ in range(3):
                last = Walker(maker.pointers, two, places, cells)
            both = Program(maker.pointers, one) + Program(maker.pointers, two) * 3
            with self.subTest((one, two, places)):
                self.assertEqual(both.run(places).changed(), last.changed())


class Comparing(Asking):
    def test_parting(self):
        found = 0
        for maker, one, two, under in pairs(700):
            pointers = maker.pointers
            with self.subTest((one, two, under)):
                expected = first_parting(pointers, one, two, under)
                first, second, facts = Program(pointers, one), Program(pointers, two), Contract(pointers, under)
                self.assertEqual(parting(first, second, under=facts), expected)
                self.assertEqual(alike(first, second, under=facts), expected is None)
                found += expected is not None
        self.assertGreater(found, 60)

    def test_no_wider_gaps_are_needed(self):
        for maker, one, two, under in pairs(120):
            if len(maker.pointers) < 3:
                with self.subTest((one, two, under)):
                    places = parting(*[Program(maker.pointers, text) for text in (one, two)],
                                     under=Contract(maker.pointers, under))
                    self.assertEqual(places, first_parting(maker.pointers, one, two, under, wider=9))

    def test_bad_distances(self):
        found = 0
        for maker, one, two, under in pairs(300):
            if len(maker.pointers) == 2:
                low = maker.chance.randint(-40, 0)
                high = low + maker.chance.randint(0, 60)
                bad = []
                for distance in range(low, high):
                    places = [(place, place + distance) for place in range(4)]
                    kept = [pair for pair in places if keeps(under, maker.pointers, pair)]
                    if any(outcome(maker.pointers, one, pair) != outcome(maker.pointers, two, pair) for pair in kept):
                        bad.append(distance)
                first, second = Program(maker.pointers, one), Program(maker.pointers, two)
                with self.subTest((one, two, under, low, high)):
                    self.is_list(bad_distances(first, second, low, high, under=Contract(maker.pointers, under)), bad)
                found += len(bad)
        self.assertGreater(found, 100)


class Contracts(Asking):
    def test_nearest(self):
        for seed in range(400):
            maker = small(seed)
            text = maker.contract(4)
            kept = [row for row in all_cases(maker.pointers, [], [text]) if keeps(text, maker.pointers, row)]
            with self.subTest(text):
                self.assertEqual(Contract(maker.pointers, text).nearest(), kept[0] if kept else None)

    def test_follows_and_idle(self):
        for seed in range(300):
            maker = small(seed)
            text, fact = maker.contract(4), maker.fact()
            facts = Contract(maker.pointers, text)
            with self.subTest((text, fact)):
                rows = all_cases(maker.pointers, [], [text, fact])
                kept = [row for row in rows if keeps(text, maker.pointers, row)]
                self.assertIs(facts.follows(fact), all(fact_is_true(fact, maker.pointers, row) for row in kept))
                idle = []
                for index, line in enumerate(facts.lines):
                    others = "\n".join(facts.lines[:index] + facts.lines[index + 1:])
                    if Contract(maker.pointers, others).follows(line):
                        idle.append(index)
                self.is_list(facts.idle(), idle)

    def test_implies_and_same(self):
        for seed in range(300):
            maker = small(seed)
            one, two = maker.contract(4), maker.contract(2)
            rows = all_cases(maker.pointers, [], [one, two])
            first = [row for row in rows if keeps(one, maker.pointers, row)]
            second = [row for row in rows if keeps(two, maker.pointers, row)]
            left, right = Contract(maker.pointers, one), Contract(maker.pointers, two)
            with self.subTest((one, two)):
                self.assertIs(left.implies(right), all(row in second for row in first))
                self.assertIs(left.same(right), first == second)
                self.assertIs((left & right).same(right), all(row in first for row in second))


if __name__ == "__main__":
    unittest.main()
