"""The examples of the interface, just as they are written there (also where their lines are long)."""

import doctest
import pathlib
import unittest

from partlymet.errors import Parted

CONTRACTS = '''
>>> from partlymet.contracts import Contract
>>> facts = Contract(["p", "q"], "apart p 4 q 4\\np by 4 2\\nq by 4 1")
>>> [facts.nearest(), facts.follows("p to q by 4 3"), facts.follows("p to q from 4"), facts.broken([0, 5]), facts.far, facts.modulus]
[(6, 1), True, False, [1], 8, 4]
'''

PROGRAMS = '''
>>> from partlymet.programs import Program
>>> smear = Program(["p", "q"], "up 3 from p to q")
>>> [sorted(smear.run([0, 1]).changed().items()), smear.run([1, 0])[1], smear.reach, smear.writes([0, 1])]
[[(1, '@0'), (2, '@0'), (3, '@0')], '@2', (0, 3), [1, 2, 3]]
>>> marked = Program(["p"], "load x 1 p\\neach f x\\neach g x\\nstore x p+1\\ngive x")
>>> outcome = marked([5])
>>> [outcome.given, outcome[6], outcome[5], 5 in outcome, marked.reach]
[(('g f @5',),), 'g f @5', '@5', False, (0, 2)]
>>> either = Program(["p", "q"], "when p to q from 9\\nstep p 4\\nelse\\nstep p -2\\nend\\nload x 2 p+1")
>>> [either.reach, either.far, either.modulus]
[(-2, 7), 9, 1]
'''

COMPARE = '''
>>> from partlymet.compare import alike, bad_distances, parting
>>> from partlymet.contracts import Contract
>>> from partlymet.programs import Program
>>> safe, fast = Program(["p", "q"], "copy 3 from p to q"), Program(["p", "q"], "up 3 from p to q")
>>> [parting(safe, fast), bad_distances(safe, fast, -5, 6), alike(safe, fast, under=Contract(["p", "q"], "p to q upto 0"))]
[(0, 1), [1, 2], True]
'''

LINES = '''
>>> from partlymet.contracts import Contract
>>> from partlymet.lines import copy_ways, idle_lines, sources, thinned
>>> from partlymet.programs import Program
>>> program = Program(["p", "q"], "input x 2\\nstore x p\\nload y 2 q\\nstore x p\\ngive y")
>>> [idle_lines(program), sources(program, 3), sources(program, 3, under=Contract(["p", "q"], "p to q is 0"))]
[[4], [0, 2], [2]]
>>> thinned(program, under=Contract(["p", "q"], "p to q from 2"))[0]
[4]
'''

NEEDS = '''
>>> from partlymet.compare import alike
>>> from partlymet.contracts import Contract
>>> from partlymet.needs import guarded, needs
>>> from partlymet.programs import Program
>>> safe, fast = Program(["p", "q"], "copy 3 from p to q"), Program(["p", "q"], "up 3 from p to q")
>>> options = Contract(["p", "q"], "p to q upto 1\\np to q from 3\\np by 2 0\\nq by 2 0")
>>> [needs(safe, fast, options), needs(safe, fast, options, under=Contract(["p", "q"], "p to q upto 2"))]
[[[0, 2, 3], [1]], [[0, 2, 3], [1]]]
>>> alike(safe, guarded(safe, fast, options))
True
'''

BOOKS = '''
>>> from partlymet.books import Book, Function, broken_calls, kept_needs
>>> from partlymet.contracts import Contract
>>> from partlymet.programs import Program
>>> book = Book()
>>> book["fore"] = Function(Program(["a", "b"], "up 4 from b to a"), Contract(["a", "b"], "b to a upto 0\\na by 2 0"))
>>> plain, free = book.read(["p"], "call fore p p+2"), Contract(["p"], "")
>>> twice = book.read(["p", "q"], "times 2\\ncall fore p q\\nstep p 3\\nend")
>>> [broken_calls(plain), broken_calls(twice), kept_needs(book, [(plain, free)])]
[[(1, 1, (1,))], [(2, 0, (0, 0)), (2, 1, (0, 0))], {'fore': [0]}]
'''

BENCHES = '''
>>> from partlymet.benches import Bench
>>> from partlymet.contracts import Contract
>>> from partlymet.programs import Program
>>> bench = Bench(Program(["p", "q"], "copy 4 from p to q"), Contract(["p", "q"], ""))
>>> bench.assume("p to q from 6")
>>> bench.turn(1, "up")
>>> [bench.now.text, bench.used()]
['up 4 from p to q', [[0]]]
>>> bench.release(0)
raises Parted(places=(0, 1))
'''


class Examples(unittest.TestCase):
    def runs(self, text):
        """Whether each line tells what stands behind it; returns the names that the lines leave."""
        test = doctest.DocTestParser().get_doctest(text, {}, "DOC.md", None, None)
        self.assertGreater(len(test.examples), 2)
        told = []
        doctest.DocTestRunner(verbose=False).run(test, out=told.append, clear_globs=False)
        self.assertEqual("".join(told), "")
        return test.globs

    def test_contracts(self):
        self.runs(CONTRACTS)

    def test_programs(self):
        self.runs(PROGRAMS)

    def test_compare(self):
        self.runs(COMPARE)

    def test_lines(self):
        self.runs(LINES)

    def test_needs(self):
        self.runs(NEEDS)

    def test_books(self):
        self.runs(BOOKS)

    def test_readme(self):
        text = (pathlib.Path(__file__).resolve().parent.parent / "README.md").read_text()
        self.runs("\n".join(text.split("```")[1::2]))

    def test_benches(self):
        # The last line of the example tells an error and its fields.
        text, last = BENCHES.split(">>> bench.release(0)")
        names = self.runs(text)
        with self.assertRaises(Parted) as caught:
            names["bench"].release(0)
        self.assertEqual(last.strip(), f"raises {type(caught.exception).__name__}(places={caught.exception.places})")


if __name__ == "__main__":
    unittest.main()
