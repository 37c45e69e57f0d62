"""Whether two programs do the same from all places that keep a contract."""

from partlymet.cases import folded, near_places
from partlymet.contracts import Contract
from partlymet.errors import NotTwo, OtherPointers
from partlymet.facts import far_of, modulus_of
from partlymet.running import ending


def parting(p, q, *, under=None):
    """The nearest places that keep the contract and from which the outcomes are not equal, or None."""
    return nearest_parting(p, q, agreed([p, q], under))


def alike(p, q, *, under=None):
    """Whether the outcomes are equal from all places that keep the contract."""
    return parting(p, q, under=under) is None


def bad_distances(p, q, low, high, *, under=None):
    """The bad distances from low on, below high."""
    facts = agreed([p, q], under)
    if len(p.pointers) != 2:
        raise NotTwo()
    width, far, modulus = measures([p, q], [facts])
    bad = []
    seen = {}
    for distance in range(low, high):
        near = folded(distance, width, far, modulus)
        if near not in seen:
            seen[near] = any([parted(p, q, facts, (place, place + near)) for place in range(modulus)])
        if seen[near]:
            bad.append(distance)
    return bad


def agreed(things, under):
    """The contract of a question about programs and contracts, if all have the same pointers."""
    pointers = things[0].pointers
    facts = Contract(pointers, "") if under is None else under
    if not all([other.pointers == pointers for other in [*things, facts]]):
        raise OtherPointers()
    return facts


def measures(programs, contracts):
    """The greatest offset of programs minus the least one, and the greatest far and modulus of all."""
    low = min([program.reach[0] for program in programs])
    high = max([program.reach[1] for program in programs])
    both = [*programs, *contracts]
    return high - low, far_of(both), modulus_of(both)


def nearest_parting(p, q, facts):
    """What `parting` tells, whatever the pointers of the two programs and the contract are called."""
    width, far, modulus = measures([p, q], [facts])
    for places in near_places(len(facts.pointers), width, far, modulus):
        if parted(p, q, facts, places):
            return places
    return None


def parted(p, q, facts, places):
    """Whether the places keep the contract, and the outcomes from there are not equal."""
    return facts.keeps(places) and ending(p.body, places) != ending(q.body, places)
