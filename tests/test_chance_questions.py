"""Questions about lines, options, functions and benches against the second reading, over texts made by chance."""

import unittest

import plain_questions as plain
from made import Maker
from partlymet.benches import Bench
from partlymet.books import Book, Function, broken_calls, kept_needs, left_out, may_replace
from partlymet.compare import alike, parting
from partlymet.contracts import Contract
from partlymet.errors import BadProgram, Clash, PartlyError, Parted, Stuck
from partlymet.lines import copy_ways, idle_lines, may_swap, sources, thinned
from partlymet.needs import guarded, needs, stuck
from partlymet.programs import Program
from plain import Walker, all_cases, first_parting, fact_far, fact_modulus, keeps, lines_of, offsets_on_all_ways
from plain import tests_with_calls
from plain_reading import wrong_line
from support import Asking

NAMES = ("p", "q", "r")
INNER = ("a", "b", "p")


def small(seed, functions=None, names=NAMES):
    """A maker over one to three pointers; the more there are, the nearer together all is."""
    pointers = list(names[:1 + seed % 3])
    if len(pointers) == 3:
        return Maker(seed, pointers, 1, (2,), functions)
    return Maker(seed, pointers, 3, (2, 4), functions)


def made_book(seed, many=3):
    """A book, and its functions as the second reading takes them; later ones call earlier ones."""
    book, functions = Book(), {}
    for at in range(many):
        maker = small(seed * 7 + at * 5, functions if at else None, INNER)
        text = maker.program(3, registers=False)
        while at and "call " not in text and maker.chance.random() < 0.8:
            text = maker.program(3, registers=False)
        if text.startswith("input") or "give" in text:
            continue
        needed = maker.contract(3)
        name = "fgh"[at] * 2
        book[name] = Function(book.read(maker.pointers, text), Contract(maker.pointers, needed))
        functions[name] = (maker.pointers, text, needed)
    return book, functions


def worlds(many):
    """A maker of programs, a book and its functions; each other one without functions."""
    for seed in range(many):
        book, functions = made_book(seed) if seed % 2 else (Book(), {})
        yield small(seed, functions), book, functions


def small_worlds(many, size=4, most=600):
    """Likewise, and the text of a program and of a contract over which a question has not too many cases."""
    for maker, book, functions in worlds(many):
        text, under = maker.program(size), maker.contract()
        if len(all_cases(maker.pointers, [text], [under], functions=functions)) <= most:
            yield maker, book, functions, text, under


def doubled(maker, text):
    """A text with some write lines twice, so that often each of two lines is idle."""
    lines = []
    for line in lines_of(text):
        lines += [line] * (1 + (line.number in plain.writes(text) and maker.chance.random() < 0.5))
    return "\n".join(lines[:40] if "end" not in lines[40:] else lines_of(text))


class Calls(Asking):
    def test_right_and_wrong_texts(self):
        wrong = 0
        for maker, book, functions in worlds(400):
            text = maker.program(8)
            for line in ("call ff p", "call gg p p", "call f p", "call ff", "call ff p p p", "call ff p+31", "call hh p q-1"):
                with self.subTest((text, line)):
                    lines = lines_of(text)
                    lines.insert(maker.chance.randint(0, len(lines)), line)
                    changed = "\n".join(lines)
                    expected = wrong_line(maker.pointers, changed, functions)
                    wrong += expected is not None
                    try:
                        self.assertEqual(book.read(maker.pointers, changed).text, changed)
                        self.assertIsNone(expected)
                    except BadProgram as caught:
                        self.assertEqual(caught.line, expected)
        self.assertGreater(wrong, 500)

    def test_runs(self):
        called = 0
        for maker, book, functions in worlds(500):
            text = maker.program(8)
            program = book.read(maker.pointers, text)
            places = [maker.chance.randint(-5, 5) for _ in maker.pointers]
            walker = Walker(maker.pointers, text, places, None, functions)
            called += len(walker.called)
            with self.subTest((functions, text, places)):
                found = program.run(places)
                self.is_tuple(found.given, walker.given)
                self.assertEqual(found.changed(), walker.changed())
                self.is_list(program.reads(places), sorted(walker.read))
                self.is_list(program.writes(places), sorted(walker.written))
                self.assertEqual(list(program.steps(places)), walker.steps)
        self.assertGreater(called, 300)

    def test_measures(self):
        for maker, book, functions in worlds(300):
            text = maker.program(8)
            program = book.read(maker.pointers, text)
            with self.subTest((functions, text)):
                rows = offsets_on_all_ways(maker.pointers, text, functions).values()
                self.is_tuple(program.reach, (min(min(row) for row in rows), max(max(row) for row in rows)))
                facts = tests_with_calls(text, functions)
                self.assertEqual(program.far, max([fact_far(line) for line in facts], default=0))
                self.assertEqual(program.modulus, max([fact_modulus(line) for line in facts], default=1))

    def test_parting(self):
        found = 0
        for seed in range(120):
            book, functions = made_book(seed, 2)
            maker = small(seed, functions)
            one, under = maker.program(3), maker.contract()
            two = "\n".join([line for line in lines_of(one) if maker.chance.random() < 0.9])
            if wrong_line(maker.pointers, two, functions) is None:
                first, second = book.read(maker.pointers, one), book.read(maker.pointers, two)
                with self.subTest((functions, one, two, under)):
                    expected = first_parting(maker.pointers, one, two, under, functions=functions)
                    self.assertEqual(parting(first, second, under=Contract(maker.pointers, under)), expected)
                    found += expected is not None
        self.assertGreater(found, 10)


class Lines(Asking):
    def test_idle_lines(self):
        found = 0
        for maker, book, functions, text, under in small_worlds(400, 5, 200):
            text = doubled(maker, text)
            program, facts = book.read(maker.pointers, text), Contract(maker.pointers, under)
            with self.subTest((functions, text, under)):
                expected = plain.idle(maker.pointers, text, under, functions)
                self.is_list(idle_lines(program, under=facts), expected)
                gone, left = thinned(program, under=facts)
                expected_gone, expected_left = plain.thinned(maker.pointers, text, under, functions)
                self.is_list(gone, expected_gone)
                self.assertEqual(left.text, expected_left)
                self.assertTrue(alike(program, left, under=facts))
                found += len(expected) > len(gone) > 0
        self.assertGreater(found, 40)

    def test_sources(self):
        found = 0
        for maker, book, functions, text, under in small_worlds(400, 7):
            program, facts = book.read(maker.pointers, text), Contract(maker.pointers, under)
            for line in lines_of(text):
                if line.split(" ")[0] in ("load", "copy", "up", "down") and maker.chance.random() < 0.5:
                    with self.subTest((functions, text, under, line)):
                        expected = plain.sources(maker.pointers, text, line.number, under, functions)
                        self.is_list(sources(program, line.number, under=facts), expected)
                        found += len(expected) > 2
        self.assertGreater(found, 10)

    def test_swaps(self):
        answers = {True: 0, False: 0}
        for maker, book, functions, text, under in small_worlds(300, 5):
            program, facts = book.read(maker.pointers, text), Contract(maker.pointers, under)
            for number in plain.swap_lines(text):
                with self.subTest((functions, text, under, number)):
                    expected = plain.may_swap(maker.pointers, text, number, under, functions)
                    self.assertIs(may_swap(program, number, under=facts), expected)
                    answers[expected] += 1
        self.assertGreater(min(answers.values()), 50)

    def test_copy_ways(self):
        seen = set()
        for maker, book, functions, text, under in small_worlds(300, 5):
            program, facts = book.read(maker.pointers, text), Contract(maker.pointers, under)
            for line in lines_of(text):
                if line.split(" ")[0] in ("copy", "up", "down"):
                    with self.subTest((functions, text, under, line)):
                        expected = plain.copy_ways(maker.pointers, text, line.number, under, functions)
                        self.is_list(copy_ways(program, line.number, under=facts), expected)
                        seen.add(tuple(expected))
        self.assertGreater(len(seen), 5)


def changed(maker, text):
    """A text that is likely alike to another one under some facts."""
    lines = text.split("\n")
    at = maker.chance.randrange(len(lines))
    words = lines[at].split(" ")
    if words[0] in ("copy", "up", "down"):
        lines[at] = " ".join([maker.chance.choice(["copy", "up", "down"])] + words[1:])
    elif maker.chance.random() < 0.5:
        lines[at:at + 2] = lines[at:at + 2][::-1]
    else:
        del lines[at]
    return "\n".join(lines)


def option_questions(many, registers=True):
    """Questions with two programs, options and a contract."""
    for maker, book, functions in worlds(many):
        one = maker.program(4, registers)
        two = changed(maker, one)
        lines = []
        for _ in range(maker.chance.randint(0, 5)):
            line = maker.fact()
            lines += [] if line in lines else [line]
        options, under = "\n".join(lines), maker.contract(1)
        if one and wrong_line(maker.pointers, two, functions) is None:
            if len(all_cases(maker.pointers, [one, two], [options, under], functions=functions)) <= 700:
                yield maker, book, functions, one, two, options, under


class Options(Asking):
    def test_needs_and_stuck(self):
        sizes = set()
        for maker, book, functions, one, two, options, under in option_questions(400):
            pointers = maker.pointers
            asked = [book.read(pointers, one), book.read(pointers, two), Contract(pointers, options)]
            facts = Contract(pointers, under)
            with self.subTest((functions, one, two, options, under)):
                expected = plain.needs(pointers, one, two, options, under, functions)
                self.is_list(needs(*asked, under=facts), expected)
                places = plain.stuck(pointers, one, two, options, under, functions)
                self.assertEqual(stuck(*asked, under=facts), places)
                self.assertEqual(places is None, expected != [])
                sizes.add(tuple(len(row) for row in expected))
        self.assertGreater(len(sizes), 5)

    def test_guarded(self):
        found = 0
        for maker, book, functions, one, two, options, under in option_questions(500, registers=False):
            pointers = maker.pointers
            p, q, chosen = book.read(pointers, one), book.read(pointers, two), Contract(pointers, options)
            facts = Contract(pointers, under)
            choices = plain.needs(pointers, one, two, options, under, functions)
            with self.subTest((functions, one, two, options, under)):
                if not choices:
                    places = plain.stuck(pointers, one, two, options, under, functions)
                    self.fails(Stuck, guarded, p, q, chosen, under=facts, places=places)
                    continue
                program = guarded(p, q, chosen, under=facts)
                self.assertTrue(alike(p, program, under=facts))
                lines = [lines_of(options)[index] for index in choices[0]]
                for _ in range(20):
                    places = [maker.chance.randint(-5, 5) for _ in pointers]
                    done = two if keeps("\n".join(lines), pointers, places) else one
                    walker = Walker(pointers, done, places, None, functions)
                    self.assertEqual(program.run(places).changed(), walker.changed())
                    self.is_list(program.reads(places), sorted(walker.read))
                    self.is_list(program.writes(places), sorted(walker.written))
                self.assertEqual(program.far, max(p.far, q.far, chosen.far))
                self.assertEqual(program.modulus, max(p.modulus, q.modulus, chosen.modulus))
                self.is_tuple(program.reach, (min(p.reach[0], q.reach[0]), max(p.reach[1], q.reach[1])))
                found += 0 < len(choices[0])
        self.assertGreater(found, 30)


class Together(Asking):
    """Programs that are put together and guarded, against a function that tells which texts a run does."""

    def grown(self, maker, book, functions, depth):
        """A program, a function from places to the texts that are done, and the texts of all parts."""
        pointers = maker.pointers
        if depth == 0 or maker.chance.random() < 0.2:
            text = maker.program(2, registers=False)
            return book.read(pointers, text), lambda places: [text], [text]
        one, texts_of_one, parts = self.grown(maker, book, functions, depth - 1)
        kind = maker.chance.random()
        if kind < 0.2:
            many = maker.chance.randint(1, 3)
            return one * many, lambda places: texts_of_one(places) * many, parts
        two, texts_of_two, more = self.grown(maker, book, functions, depth - 1)
        if kind < 0.5:
            return one + two, lambda places: texts_of_one(places) + texts_of_two(places), parts + more
        # No places keep all of this option together with the contract, so that it is enough by itself.
        fact = maker.fact()
        other = [line for line in (maker.fact() for _ in range(50)) if (Contract(pointers, fact)
                 & Contract(pointers, line)).nearest() is None]
        if not other or alike(one, two, under=Contract(pointers, other[0])):
            return one, texts_of_one, parts
        program = guarded(one, two, Contract(pointers, fact), under=Contract(pointers, other[0]))
        return program, lambda places: (texts_of_two if keeps(fact, pointers, places) else texts_of_one)(places), \
            parts + more

    def walked(self, pointers, texts, places, functions):
        """What cells hold, and what was read and written, behind some texts one after another."""
        cells, read, written = {}, set(), set()
        for text in texts:
            walker = Walker(pointers, text, places, cells, functions)
            read |= walker.read
            written |= walker.written
        return {cell: text for cell, text in cells.items() if text != f"@{cell}"}, sorted(read), sorted(written)

    def test_mixed(self):
        guards = 0
        for maker, book, functions in worlds(200):
            program, texts_of, parts = self.grown(maker, book, functions, 3)
            guards += program.text == ""
            rows = [row for text in parts for row in offsets_on_all_ways(maker.pointers, text, functions).values()]
            with self.subTest((functions, parts)):
                self.is_tuple(program.reach, (min(min(row) for row in rows), max(max(row) for row in rows)))
                for _ in range(10):
                    places = tuple(maker.chance.randint(-4, 4) for _ in maker.pointers)
                    cells, read, written = self.walked(maker.pointers, texts_of(places), places, functions)
                    self.assertEqual(program.run(places).changed(), cells)
                    self.is_tuple(program.run(places).given, ())
                    self.is_list(program.reads(places), read)
                    self.is_list(program.writes(places), written)
        self.assertGreater(guards, 10)


class Functions(Asking):
    def test_broken_calls(self):
        found = 0
        for seed in range(200):
            book, functions = made_book(seed)
            maker = small(seed, functions)
            text, under = maker.program(5), maker.contract()
            if len(all_cases(maker.pointers, [text], [under], functions=functions)) > 300:
                continue
            with self.subTest((functions, text, under)):
                expected = plain.broken_calls(maker.pointers, text, under, functions)
                program = book.read(maker.pointers, text)
                self.is_list(broken_calls(program, under=Contract(maker.pointers, under)), expected)
                found += len(expected)
        self.assertGreater(found, 100)

    def test_may_replace(self):
        answers = {True: 0, False: 0}
        for seed in range(400):
            book, functions = made_book(seed, 2)
            one, two = small(seed, functions, INNER), small(seed, functions, NAMES)
            text = one.program(3, registers=False, facts=seed % 3 != 0)
            other = changed(one, text)
            if wrong_line(one.pointers, other, functions) is not None:
                continue
            needed = one.contract(2)
            less = "\n".join(line for line in lines_of(needed) if one.chance.random() < 0.7)
            first = Function(book.read(one.pointers, text), Contract(one.pointers, needed))
            second = Function(book.read(one.pointers, other), Contract(one.pointers, less))
            mixed = Function(book.read(two.pointers, two.program(2, False)), Contract(two.pointers, two.contract(1)))
            texts = [(list(f.pointers), f.program.text, f.needed.text) for f in (first, second, mixed)]
            sizes = [len(all_cases(names, [text], [facts], functions=functions)) for names, text, facts in texts]
            if max(sizes) > 600:
                continue
            for f, g, one_text, two_text in (
                (first, second, texts[0], texts[1]), (second, first, texts[1], texts[0]),
                (first, mixed, texts[0], texts[2]), (mixed, mixed, texts[2], texts[2]),
            ):
                with self.subTest((functions, one_text, two_text)):
                    expected = plain.may_replace(one_text, two_text, functions)
                    self.assertIs(may_replace(f, g), expected)
                    answers[expected] += 1
        self.assertGreater(min(answers.values()), 100)

    def test_kept_needs_and_left_out(self):
        found = []
        for seed in range(500):
            book, functions = made_book(seed, 3)
            roots = []
            for at in range(seed % 3):
                maker = small(seed + at * 11, functions)
                roots.append((maker.pointers, maker.program(3), maker.contract(2)))
            asked = [(book.read(names, text), Contract(names, facts)) for names, text, facts in roots]
            callers = [row[1:] for row in plain.callers(functions, roots)]
            sizes = [len(all_cases(names, [text], [facts], functions=functions)) for names, text, facts in callers]
            if max(sizes) > 300:
                continue
            with self.subTest((functions, roots)):
                expected = plain.kept_needs(functions, roots)
                kept = kept_needs(book, asked)
                self.assertEqual(kept, expected)
                told = left_out(book, asked)
                self.assertIs(type(told), list)
                self.assertIsNone(plain.wrong_reason(functions, roots, told))
                for name, (_, _, needed) in functions.items():
                    gone = sorted(index for one, index, _, _, _ in told if one == name)
                    self.assertEqual(sorted(gone + kept[name]), list(range(len(lines_of(needed)))))
                found.append(len(told))
        self.assertGreater(sum(found), 50)
        self.assertGreater(len([many for many in found if many > 2]), 5)


class Benches(Asking):
    def state(self, bench):
        return bench.first, bench.now, bench.facts.text

    def act(self, maker, bench, functions, book):
        """A call by chance: what is called, and the state that it should lead to, if it is accepted."""
        pick = maker.chance
        kind = pick.choice(["change", "drop", "swap", "turn", "assume", "release"])
        lines = lines_of(bench.now.text)
        line = pick.randint(1, max(1, len(lines)))
        facts = lines_of(bench.facts.text)
        if kind == "change":
            text = changed(maker, bench.now.text)
            if wrong_line(maker.pointers, text, functions) is not None:
                return None
            return lambda: bench.change(book.read(maker.pointers, text)), text, facts
        if kind == "drop" and line in plain.writes(bench.now.text):
            return lambda: bench.drop(line), plain.without(bench.now.text, line), facts
        if kind == "swap" and line in plain.swap_lines(bench.now.text):
            return lambda: bench.swap(line), plain.exchanged(bench.now.text, line), facts
        if kind == "turn" and lines and lines[line - 1].split(" ")[0] in ("copy", "up", "down"):
            word = pick.choice(["copy", "up", "down"])
            return lambda: bench.turn(line, word), plain.turned(bench.now.text, line, word), facts
        if kind == "assume":
            fact = maker.fact()
            return lambda: bench.assume(fact), bench.now.text, facts + ([] if fact in facts else [fact])
        if kind == "release" and facts:
            index = pick.randrange(len(facts))
            return lambda: bench.release(index), bench.now.text, facts[:index] + facts[index + 1:]
        return None

    def refusal(self, maker, functions, bench, text, facts):
        """The error and the places that a change should be refused with, or None."""
        pointers, under = maker.pointers, "\n".join(facts)
        if wrong_line(pointers, text, functions) is not None:
            return BadProgram, wrong_line(pointers, text, functions)
        if len(facts) < len(bench.facts):
            places = first_parting(pointers, bench.first.text, text, under, functions=functions)
            return (Parted, places) if places is not None else None
        if text == bench.now.text:
            kept = any(keeps(under, pointers, row) for row in all_cases(pointers, [], [under]))
            return None if kept or bench.facts.text == under and not self.assuming else (Clash, None)
        places = first_parting(pointers, bench.now.text, text, under, functions=functions)
        return (Parted, places) if places is not None else None

    def test_many_changes(self):
        accepted, refused = 0, 0
        for maker, book, functions in worlds(60):
            pointers = maker.pointers
            text = maker.program(4)
            bench = Bench(book.read(pointers, text), Contract(pointers, maker.contract(1)))
            states = [self.state(bench)]
            for _ in range(12):
                row = self.act(maker, bench, functions, book)
                if row is None:
                    continue
                call, other, facts = row
                self.assuming = len(facts) >= len(bench.facts) and other == bench.now.text
                with self.subTest((functions, bench.first.text, bench.now.text, bench.facts.text, other, facts)):
                    before = self.state(bench)
                    # A change to the same text is no `assume`: then no clash is asked for.
                    expected = self.refusal(maker, functions, bench, other, facts)
                    try:
                        call()
                        if expected is not None:
                            self.assertEqual(expected[0], Clash)
                            self.assertEqual("\n".join(facts), before[2])
                        states.append(self.state(bench))
                        self.assertEqual([bench.now.text, bench.facts.text], [other, "\n".join(facts)])
                        accepted += 1
                    except PartlyError as caught:
                        self.assertEqual(self.state(bench), before)
                        self.assertIs(type(caught), expected[0])
                        if expected[0] is not Clash:
                            self.assertEqual(list(vars(caught).values()), [expected[1]])
                        refused += 1
            with self.subTest((functions, bench.first.text, bench.now.text, bench.facts.text)):
                self.assertTrue(alike(bench.first, bench.now, under=bench.facts))
                while states:
                    self.assertEqual(self.state(bench), states.pop())
                    if states:
                        bench.undo()
        self.assertGreater(accepted, 100)
        self.assertGreater(refused, 60)


if __name__ == "__main__":
    unittest.main()
