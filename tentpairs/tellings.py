"""What is told of a camp: its steady pairs, or the rings that show that there are none."""

from tentpairs.camps import breaking, is_camper, partners
from tentpairs.errors import BadPairs, NoCamper, NoneSteady
from tentpairs.rings import rings_of, tell_none


class Answer:
    # An answer that tells nothing holds of no camp.
    def holds(self, camp):
        return False


class Steady(Answer):
    def __init__(self, pairs):
        self.pairs = list(pairs)

    def holds(self, camp):
        try:
            return breaking(camp, self.pairs) == []
        except BadPairs:
            return False


class Rings(Answer):
    def __init__(self, rings):
        self.rings = [list(ring) for ring in rings]

    def holds(self, camp):
        return tell_none(camp, self.rings)


# Those who are free come rising, so in each pair the lesser number stands first, and the pairs rise.
def ways_to_pair(camp, free):
    if not free:
        return [[]]
    first = free[0]
    others = free[1:]
    found = ways_to_pair(camp, others)
    for mate in others:
        if camp.would_share(first, mate):
            left = [camper for camper in others if camper != mate]
            found.extend([[(first, mate)] + pairs for pairs in ways_to_pair(camp, left)])
    return found


def all_steady(camp):
    ways = ways_to_pair(camp, list(range(camp.size)))
    return sorted([pairs for pairs in ways if breaking(camp, pairs) == []])


def telling(camp):
    found = all_steady(camp)
    if found:
        return Steady(found[0])
    return Rings(rings_of(camp))


def steady_or_refused(camp):
    found = all_steady(camp)
    if not found:
        raise NoneSteady(rings_of(camp))
    return found


def alone(camp):
    # The same campers are alone in all steady pairs, so the first ones tell it.
    having = partners(camp, steady_or_refused(camp)[0])
    return [camper for camper in range(camp.size) if camper not in having]


def mates(camp, camper):
    if not is_camper(camper, camp.size):
        raise NoCamper("this is no camper of the camp")
    found = {}
    for pairs in steady_or_refused(camp):
        # Where the camper is alone this is None, which stands in no list.
        found[partners(camp, pairs).get(camper)] = True
    return [other for other in camp.wishes[camper] if other in found]
