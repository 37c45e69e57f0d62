"""Programs and contracts that are made by chance, always the same ones for the same seed."""

import random


class Maker:
    """Makes right texts over some pointers.

    `functions` may be called: a dict from names to triples with the pointers first.
    """

    def __init__(self, seed, pointers, far=3, moduli=(2, 4, 8), functions=None):
        self.chance = random.Random(seed)
        self.pointers = pointers
        self.far = far
        self.moduli = moduli
        self.functions = functions or {}

    def spot(self, pointer=None):
        pointer = pointer or self.chance.choice(self.pointers)
        shift = self.chance.randint(-self.far, self.far)
        return pointer + (f"{shift:+d}" if shift else "")

    def fact(self):
        pick = self.chance
        two = pick.sample(self.pointers, 2) if len(self.pointers) > 1 else None
        form = pick.choice(["from", "upto", "is", "apart", "by", "place"]) if two else "place"
        modulus = pick.choice(self.moduli)
        if form == "place":
            return f"{pick.choice(self.pointers)} by {modulus} {pick.randrange(modulus)}"
        if form == "by":
            return f"{two[0]} to {two[1]} by {modulus} {pick.randrange(modulus)}"
        if form == "apart":
            return f"apart {self.spot(two[0])} {pick.randint(1, 3)} {self.spot(two[1])} {pick.randint(1, 3)}"
        return f"{two[0]} to {two[1]} {form} {pick.randint(-self.far, self.far)}"

    def contract(self, most=3):
        lines = []
        for _ in range(self.chance.randint(0, most)):
            line = self.fact()
            if line not in lines:
                lines.append(line)
        return "\n".join(lines)

    def program(self, many=6, registers=True, facts=True):
        """A right text of about so many lines, 40 at most."""
        while True:
            lines = self.lines(many, registers, facts)
            if len(lines) <= 40:
                return "\n".join(lines)

    def lines(self, many, registers, facts):
        self.widths = {}
        lines = []
        known = {}
        if registers and self.chance.random() < 0.5:
            self.widths["in"] = known["in"] = self.chance.randint(1, 3)
            lines.append(f"input in {known['in']}")
        lines += self.block(many, 0, known, facts)
        if registers and known and self.chance.random() < 0.7:
            lines.append("give " + " ".join(self.chance.choices(sorted(known), k=self.chance.randint(1, 3))))
        return lines

    def block(self, many, depth, known, facts):
        lines = []
        for _ in range(self.chance.randint(0 if depth else 1, many)):
            kind = self.chance.random()
            if kind < 0.12 and depth < 2:
                lines += [f"times {self.chance.randint(1, 3)}"] + self.block(2, depth + 1, known, facts) + ["end"]
            elif kind < 0.3 and depth < 2 and facts:
                lines += self.choice(depth, known)
            else:
                lines.append(self.line(known))
        return lines

    def choice(self, depth, known):
        one, two = dict(known), dict(known)
        lines = ["when " + self.fact()] + self.block(2, depth + 1, one, True)
        if self.chance.random() < 0.6:
            lines += ["else"] + self.block(2, depth + 1, two, True)
            known.update({name: one[name] for name in one if name in two})
        return lines + ["end"]

    def line(self, known):
        pick = self.chance
        forms = ["load", "set", "copy", "up", "down", "step"]
        if known:
            forms += ["store", "store", "each", "join", "part"]
        narrow = [name for name in sorted(known) if known[name] == 1]
        if narrow:
            forms.append("fill")
        if self.functions:
            forms += ["call"] * 5
        form = pick.choice(forms)
        if form == "call":
            name = pick.choice(sorted(self.functions))
            return " ".join(["call", name] + [self.spot() for _ in self.functions[name][0]])
        if form in ("copy", "up", "down"):
            return f"{form} {pick.randint(1, 3)} from {self.spot()} to {self.spot()}"
        if form == "step":
            return f"step {pick.choice(self.pointers)} {pick.randint(-2, 2)}"
        if form == "store":
            return f"store {pick.choice(sorted(known))} {self.spot()}"
        if form == "fill":
            return f"fill {pick.randint(1, 3)} {pick.choice(narrow)} {self.spot()}"
        if form == "each":
            return f"each {pick.choice('fg')} {pick.choice(sorted(known))}"
        return self.setting(form, known)

    def setting(self, form, known):
        pick = self.chance
        if form == "load":
            width = pick.choice([1, 2, 4])
            rest = f"{width} {self.spot()}"
        elif form == "set":
            numbers = [str(pick.randint(0, 2)) for _ in range(pick.randint(1, 3))]
            width, rest = len(numbers), " ".join(numbers)
        elif form == "join":
            one, two = pick.choices(sorted(known), k=2)
            width, rest = known[one] + known[two], f"{one} {two}"
        else:
            one = pick.choice(sorted(known))
            start = pick.randrange(known[one])
            width = pick.randint(1, known[one] - start)
            rest = f"{one} {start} {width}"
        if width > 16:
            return f"step {self.pointers[0]} 1"
        name = pick.choice([name for name in "abcdefghijklmnopqrstuvwxyz" if self.widths.get(name, width) == width])
        self.widths[name] = known[name] = width
        return f"{form} {name} {rest}"
