"""Camps and pairs for the tests to walk through, and the words of the document, plainly."""

from itertools import combinations, permutations, product
from random import Random


def lists_of(camper, size):
    others = [other for other in range(size) if other != camper]
    return [list(row) for length in range(size) for row in permutations(others, length)]


def all_lists(size):
    for rows in product(*[lists_of(camper, size) for camper in range(size)]):
        yield [list(row) for row in rows]


def some_lists(size, count, seed):
    chance = Random(seed)
    for number in range(count):
        rows = []
        for camper in range(size):
            others = [other for other in range(size) if other != camper]
            chance.shuffle(others)
            # Every third camp has whole lists: with short ones few campers would share.
            kept = size - 1 if number % 3 == 0 else chance.randrange(size)
            rows.append(others[:kept])
        yield rows


def would_share(lists, one, other):
    return other in lists[one] and one in lists[other]


def all_pairs(lists):
    """Every list of pairs of campers who would share, nobody in two of them."""
    sharing = [two for two in combinations(range(len(lists)), 2) if would_share(lists, *two)]
    for count in range(len(lists) // 2 + 1):
        for pairs in combinations(sharing, count):
            campers = [camper for pair in pairs for camper in pair]
            if len(set(campers)) == len(campers):
                yield list(pairs)


def plain_breaking(lists, pairs):
    """Who breaks these pairs, by a look at every two campers and at the words of [1] and [3]."""
    campers = range(len(lists))
    best_first = [[o for o in lists[c] if would_share(lists, c, o)] + ["alone"] for c in campers]
    has = ["alone" for _ in campers]
    for one, other in pairs:
        has[one], has[other] = other, one
    found = []
    for one, other in combinations(campers, 2):
        if would_share(lists, one, other):
            rather = [
                best_first[a].index(b) < best_first[a].index(has[a])
                for a, b in ((one, other), (other, one))
            ]
            if all(rather):
                found.append((one, other))
    return found
