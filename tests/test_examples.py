"""The examples of the interface, just as they are written there (also where their lines are long)."""

import doctest
import unittest

CONTRACTS = '''
>>> from partlymet.contracts import Contract
>>> facts = Contract(["p", "q"], "apart p 4 q 4\\np by 4 2\\nq by 4 1")
>>> [facts.nearest(), facts.follows("p to q by 4 3"), facts.follows("p to q from 4"), facts.broken([0, 5]), facts.far, facts.modulus]
[(6, 1), True, False, [1], 8, 4]
'''

PROGRAMS = '''
>>> from partlymet.programs import Program
>>> smear = Program(["p", "q"], "up 3 from p to q")
>>> [sorted(smear.run([0, 1]).changed().items()), smear.run([1, 0])[1], smear.reach, smear.writes([0, 1])]
[[(1, '@0'), (2, '@0'), (3, '@0')], '@2', (0, 3), [1, 2, 3]]
>>> marked = Program(["p"], "load x 1 p\\neach f x\\neach g x\\nstore x p+1\\ngive x")
>>> outcome = marked([5])
>>> [outcome.given, outcome[6], outcome[5], 5 in outcome, marked.reach]
[(('g f @5',),), 'g f @5', '@5', False, (0, 2)]
>>> either = Program(["p", "q"], "when p to q from 9\\nstep p 4\\nelse\\nstep p -2\\nend\\nload x 2 p+1")
>>> [either.reach, either.far, either.modulus]
[(-2, 7), 9, 1]
'''

COMPARE = '''
>>> from partlymet.compare import alike, bad_distances, parting
>>> from partlymet.contracts import Contract
>>> from partlymet.programs import Program
>>> safe, fast = Program(["p", "q"], "copy 3 from p to q"), Program(["p", "q"], "up 3 from p to q")
>>> [parting(safe, fast), bad_distances(safe, fast, -5, 6), alike(safe, fast, under=Contract(["p", "q"], "p to q upto 0"))]
[(0, 1), [1, 2], True]
'''


class Examples(unittest.TestCase):
    def runs(self, text):
        test = doctest.DocTestParser().get_doctest(text, {}, "DOC.md", None, None)
        self.assertGreater(len(test.examples), 2)
        told = []
        doctest.DocTestRunner(verbose=False).run(test, out=told.append)
        self.assertEqual("".join(told), "")

    def test_contracts(self):
        self.runs(CONTRACTS)

    def test_programs(self):
        self.runs(PROGRAMS)

    def test_compare(self):
        self.runs(COMPARE)


if __name__ == "__main__":
    unittest.main()
