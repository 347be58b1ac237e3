"""Camps of campers with their lists, and the pairs of campers who break given pairs."""

from tentpairs.errors import BadCamp, BadPairs

MOST_CAMPERS = 6


# The words of a refusal show nothing that was handed in: a number can be too long to be written.


def is_camper(value, size):
    # Python takes True and False for 1 and 0, but they are no numbers here.
    if isinstance(value, bool) or not isinstance(value, int):
        return False
    return 0 <= value < size


def check_wishes(camper, wishes, size):
    if not isinstance(wishes, list):
        raise BadCamp("whom a camper would share with is told by a list")
    seen = {camper: True}
    for other in wishes:
        if not is_camper(other, size):
            raise BadCamp("a list holds what is no camper of the camp")
        if other in seen:
            raise BadCamp("a list holds its own camper, or a camper twice")
        seen[other] = True


def check_lists(lists):
    if not isinstance(lists, list):
        raise BadCamp("a camp is told by a list of lists")
    if not 1 <= len(lists) <= MOST_CAMPERS:
        raise BadCamp("a camp has 1 to 6 campers")
    for camper, wishes in enumerate(lists):
        check_wishes(camper, wishes, len(lists))


class Camp:
    def __init__(self, lists):
        check_lists(lists)
        self.size = len(lists)
        self.wishes = [list(wishes) for wishes in lists]

    def lists(self):
        return [list(wishes) for wishes in self.wishes]

    def would_share(self, one, other):
        return other in self.wishes[one] and one in self.wishes[other]

    # Asked only of campers whom this one would share with; had is None where it is alone.
    def would_rather(self, camper, other, had):
        if had is None:
            return True
        wishes = self.wishes[camper]
        return wishes.index(other) < wishes.index(had)


def check_pair(camp, pair):
    if not isinstance(pair, tuple) or len(pair) != 2:
        raise BadPairs("a pair is a tuple of two campers")
    for camper in pair:
        if not is_camper(camper, camp.size):
            raise BadPairs("a pair holds what is no camper of the camp")
    # Nobody stands in its own list, so a camper with itself is refused here too.
    if not camp.would_share(pair[0], pair[1]):
        raise BadPairs("a pair holds two who would not share")


def partners(camp, pairs):
    if not isinstance(pairs, list):
        raise BadPairs("pairs are told by a list")
    found = {}
    for pair in pairs:
        check_pair(camp, pair)
        if pair[0] in found or pair[1] in found:
            raise BadPairs("a camper stands in two pairs")
        found[pair[0]] = pair[1]
        found[pair[1]] = pair[0]
    return found


def would_break(camp, having, one, other):
    if not camp.would_share(one, other):
        return False
    if not camp.would_rather(one, other, having.get(one)):
        return False
    return camp.would_rather(other, one, having.get(other))


# having tells whom each camper has: who has None there, or does not stand in it, is alone.
def breakers(camp, having):
    found = []
    for lesser in range(camp.size):
        for greater in range(lesser + 1, camp.size):
            if would_break(camp, having, lesser, greater):
                found.append((lesser, greater))
    return found


def breaking(camp, pairs):
    return breakers(camp, partners(camp, pairs))
