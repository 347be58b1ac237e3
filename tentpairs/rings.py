"""Rings of campers: whether they are good, and good ones for a camp that has no steady pairs."""

from tentpairs.camps import breakers

# No other odd ring of more than one camper has room in a camp.
TELLING_SIZES = (3, 5)


# In these two an index below zero counts from a ring's end: it begins where it ends.


def would_all_share(camp, ring):
    return all([camp.would_share(ring[place - 1], ring[place]) for place in range(len(ring))])


# Asked only of rings in which each would share with its next one.
def would_all_rather(camp, ring):
    return all([camp.would_rather(ring[place - 1], ring[place], ring[place - 2]) for place in range(len(ring))])


def is_good_ring(camp, ring):
    if len(ring) == 1:
        return True
    if not would_all_share(camp, ring):
        return False
    return len(ring) == 2 or would_all_rather(camp, ring)


def stand_once(camp, rings):
    standing = []
    for ring in rings:
        standing.extend(ring)
    return sorted(standing) == list(range(camp.size))


def last_ones(rings):
    found = {}
    for ring in rings:
        for place, camper in enumerate(ring):
            found[camper] = ring[place - 1] if len(ring) > 1 else None
    return found


def are_good(camp, rings):
    if [] in rings or not stand_once(camp, rings):
        return False
    if not all([is_good_ring(camp, ring) for ring in rings]):
        return False
    return breakers(camp, last_ones(rings)) == []


def tell_none(camp, rings):
    return any([len(ring) in TELLING_SIZES for ring in rings]) and are_good(camp, rings)


def with_free(camp, closed, free):
    if not free:
        return closed if tell_none(camp, closed) else None
    # The least one begins, so that a ring is not tried once more from each of its campers.
    return with_begun(camp, closed, free[:1], free[1:])


def with_begun(camp, closed, ring, free):
    if is_good_ring(camp, ring):
        found = with_free(camp, closed + [ring], free)
        if found is not None:
            return found
    for other in free:
        if camp.would_share(ring[-1], other):
            left = [camper for camper in free if camper != other]
            found = with_begun(camp, closed, ring + [other], left)
            if found is not None:
                return found
    return None


# Asked only of camps without steady pairs: all others have no such rings.
def rings_of(camp):
    return with_free(camp, [], list(range(camp.size)))
