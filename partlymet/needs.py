"""Which facts a change of a program needs."""

from partlymet.cases import near_places
from partlymet.compare import agreed, measures, parted
from partlymet.errors import HasRegisters, Stuck, TooMany
from partlymet.programs import guarded_program

MOST_OPTIONS = 8


def needs(p, q, options, *, under=None):
    """The least choices of the options that are enough, as ascending lists of indexes."""
    facts = asked(p, q, options, under)
    rows = missed_options(p, q, options, facts)
    return sorted([members(choice) for choice in range(1 << len(options)) if is_least(choice, rows)])


def stuck(p, q, options, *, under=None):
    """The nearest places that keep all, and from which the outcomes are not equal, or None."""
    facts = asked(p, q, options, under)
    for places in parted_places(p, q, options, facts):
        if options.keeps(places):
            return places
    return None


def guarded(p, q, options, *, under=None):
    """The program that does q where the first of the least choices is kept, and p elsewhere."""
    agreed([p, q, options], under)
    if p.body.has_registers or q.body.has_registers:
        raise HasRegisters()
    choices = needs(p, q, options, under=under)
    if not choices:
        raise Stuck(stuck(p, q, options, under=under))
    return guarded_program(p, q, tuple([options.rows[index] for index in choices[0]]), options)


def asked(p, q, options, under):
    """The contract of a question about options."""
    facts = agreed([p, q, options], under)
    if len(options) > MOST_OPTIONS:
        raise TooMany(MOST_OPTIONS)
    return facts


def parted_places(p, q, options, facts):
    """Yields the places that keep the contract, and from which the outcomes are not equal, nearest ones first."""
    width, far, modulus = measures([p, q], [facts, options])
    for places in near_places(len(p.pointers), width, far, modulus):
        if parted(p, q, facts, places):
            yield places


def missed_options(p, q, options, facts):
    """For the places from which outcomes are not equal, the options that are false there.

    Each is a number in which bit K stands for option K; a choice is enough if it has a bit of each.
    """
    rows = {}
    for places in parted_places(p, q, options, facts):
        rows[sum([1 << index for index in options.broken(places)])] = True
    return list(rows)


def is_enough(choice, rows):
    """Whether a choice of options, given by its bits, is enough."""
    return all([choice & row != 0 for row in rows])


def is_least(choice, rows):
    """Whether a choice is enough, but no longer without any one of its options."""
    return is_enough(choice, rows) and not any([is_enough(choice - (1 << index), rows) for index in members(choice)])


def members(choice):
    """The indexes of the options of a choice."""
    return [index for index in range(MOST_OPTIONS) if choice >> index & 1]
