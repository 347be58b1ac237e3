"""Camps and pairs for the tests to walk through, and the words of the document, plainly."""

from itertools import combinations, islice, permutations, product
from random import Random

NO_NUMBERS = (True, False, None, 1.0, 0.0, "1", "", [1], (1,), {}, 1j)


def lists_of(camper, size):
    others = [other for other in range(size) if other != camper]
    return [list(row) for length in range(size) for row in permutations(others, length)]


def all_lists(size):
    for rows in product(*[lists_of(camper, size) for camper in range(size)]):
        yield [list(row) for row in rows]


def some_lists(size, count, seed):
    chance = Random(seed)
    for number in range(count):
        rows = []
        for camper in range(size):
            others = [other for other in range(size) if other != camper]
            chance.shuffle(others)
            # Every third camp has whole lists: with short ones few campers would share.
            kept = size - 1 if number % 3 == 0 else chance.randrange(size)
            rows.append(others[:kept])
        yield rows


def would_share(lists, one, other):
    return other in lists[one] and one in lists[other]


def all_pairs(lists):
    """Every list of pairs of campers who would share, nobody in two of them."""
    sharing = [two for two in combinations(range(len(lists)), 2) if would_share(lists, *two)]
    for count in range(len(lists) // 2 + 1):
        for pairs in combinations(sharing, count):
            campers = [camper for pair in pairs for camper in pair]
            if len(set(campers)) == len(campers):
                yield list(pairs)


def plainly_rather(lists, camper, one, other):
    """Whether the camper would rather have the one than the other; either may be "alone"."""
    best_first = [o for o in lists[camper] if would_share(lists, camper, o)] + ["alone"]
    return best_first.index(one) < best_first.index(other)


def two_who_would_rather(lists, has):
    """Every two who would share and would each rather have the other one than what it has."""
    return [
        (one, other)
        for one, other in combinations(range(len(lists)), 2)
        if would_share(lists, one, other)
        and plainly_rather(lists, one, other, has[one])
        and plainly_rather(lists, other, one, has[other])
    ]


def plain_breaking(lists, pairs):
    """Who breaks these pairs, by a look at every two campers and at the words of [1] and [3]."""
    has = ["alone" for _ in lists]
    for one, other in pairs:
        has[one], has[other] = other, one
    return two_who_would_rather(lists, has)


def plainly_steady(lists, pairs):
    """Whether these are pairs by the words of [2], and steady by those of [3]."""
    campers = [camper for pair in pairs for camper in pair]
    if len(set(campers)) < len(campers) or not all(would_share(lists, *pair) for pair in pairs):
        return False
    return plain_breaking(lists, pairs) == []


def plain_all_steady(lists):
    return sorted(sorted(pairs) for pairs in all_pairs(lists) if plain_breaking(lists, pairs) == [])


def plainly_good(lists, rings):
    """Whether these are good rings, word by word as [4] has it."""
    if any(len(ring) == 0 for ring in rings):
        return False
    if sorted(camper for ring in rings for camper in ring) != list(range(len(lists))):
        return False
    following, last = {}, {}
    for ring in rings:
        for camper, behind in zip(ring, ring[1:] + ring[:1]):
            following[camper], last[behind] = behind, camper
    for ring in rings:
        if len(ring) >= 2 and not all(would_share(lists, c, following[c]) for c in ring):
            return False
        if len(ring) >= 3 and not all(plainly_rather(lists, c, following[c], last[c]) for c in ring):
            return False
    has = ["alone" if last[c] == c else last[c] for c in range(len(lists))]
    return two_who_would_rather(lists, has) == []


def plainly_none(lists, rings):
    """Whether these are good rings with one of three or five among them, as [5] has it."""
    return plainly_good(lists, rings) and any(len(ring) in (3, 5) for ring in rings)


def all_rings(size):
    """Every way for each camper to stand once in rings."""
    for following in permutations(range(size)):
        rings, seen = [], set()
        for camper in range(size):
            ring = []
            while camper not in seen:
                seen.add(camper)
                ring.append(camper)
                camper = following[camper]
            if ring:
                rings.append(ring)
        yield rings


def ringed_lists(size, length, count, seed):
    """Camps with a ring of that length in which each has the next one ahead of the one behind it."""
    chance = Random(seed)
    rows = some_lists(size, count, seed + 1)
    for number, lists in enumerate(rows):
        ring = chance.sample(range(size), length)
        for place, camper in enumerate(ring):
            two = [ring[(place + 1) % length], ring[place - 1]]
            others = [other for other in lists[camper] if other not in two]
            # In every second camp the two come first: then an odd ring leaves no steady pairs.
            places = [0, 0] if number % 2 else sorted(chance.randrange(len(others) + 1) for _ in two)
            lists[camper] = others[: places[0]] + two[:1] + others[places[0]:places[1]] + two[1:] + others[places[1]:]
        yield lists


def camps_to_tell_of():
    """Camps of all sizes: small ones all, of the larger ones some, and such with rings."""
    for size in range(1, 4):
        yield from all_lists(size)
    yield from islice(all_lists(4), 0, None, 29)
    for size, count in ((4, 200), (5, 300), (6, 300)):
        yield from some_lists(size, count, 200 + size)
        yield [[] for _ in range(size)]
    for size in range(3, 7):
        for length in range(3, min(size, 5) + 1):
            yield from ringed_lists(size, length, 80, 300 + 10 * size + length)
