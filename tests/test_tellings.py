"""Points [4], [5] and [6]: what is told of camps, and whether it holds."""

import unittest
from copy import deepcopy
from itertools import combinations
from random import Random

from tentpairs.camps import Camp, breaking
from tentpairs.errors import CampError, NoCamper, NoneSteady
from tentpairs.tellings import Answer, Rings, Steady, all_steady, alone, mates, telling
from tests.samples import (
    NO_NUMBERS,
    all_rings,
    camps_to_tell_of,
    plain_all_steady,
    plainly_good,
    plainly_none,
    plainly_steady,
    ringed_lists,
    some_lists,
)

# Camper 3 is alone beside the ring 0, 1, 2.
THREE = [[1, 2], [2, 0], [0, 1], []]
# The ring goes 0, 3, 2, 1, and each would rather have its next one than its last one.
FOUR = [[3, 1], [0, 2], [1, 3], [2, 0]]
FIVE = [[1, 4], [2, 0], [3, 1], [4, 2], [0, 3]]
TWICE_THREE = [[1, 2], [2, 0], [0, 1], [4, 5], [5, 3], [3, 4]]
THREE_AND_TWO = [[1, 2], [2, 0], [0, 1], [4], [3]]


def turned(chance, rings):
    """The same rings, told in another order and begun at other campers."""
    shuffled = chance.sample(rings, len(rings))
    starts = [chance.randrange(len(ring)) for ring in shuffled]
    return [ring[start:] + ring[:start] for ring, start in zip(shuffled, starts)]


class Telling(unittest.TestCase):
    def check_telling(self, lists):
        camp = Camp(lists)
        answer = telling(camp)
        if plain_all_steady(lists):
            self.assertIs(type(answer), Steady, lists)
            self.assertTrue(plainly_steady(lists, answer.pairs), (lists, answer.pairs))
            self.assertEqual(breaking(camp, answer.pairs), [])
        else:
            self.assertIs(type(answer), Rings, lists)
            self.assertTrue(plainly_none(lists, answer.rings), (lists, answer.rings))
        self.assertIs(answer.holds(camp), True)
        self.assertEqual(camp.lists(), lists)

    def test_held_against_a_plain_look(self):
        for lists in camps_to_tell_of():
            self.check_telling(lists)

    def test_lists_of_none(self):
        for size in range(1, 7):
            with self.subTest(size=size):
                self.assertEqual(telling(Camp([[] for _ in range(size)])).pairs, [])

    def test_lists_of_all_others(self):
        for size in range(1, 7):
            with self.subTest(size=size):
                self.check_telling([[o for o in range(size) if o != c] for c in range(size)])

    def test_the_only_steady_pairs(self):
        pairs = telling(Camp([[2], [], [0, 1], [4, 2], [3]])).pairs
        self.assertEqual(sorted(sorted(pair) for pair in pairs), [[0, 2], [3, 4]])

    def test_odd_rings_are_told(self):
        for lists, lengths in (
            (THREE[:3], [3]),
            (THREE, [1, 3]),
            (FIVE, [5]),
            (FIVE + [[]], [1, 5]),
            (TWICE_THREE, [3, 3]),
            (THREE_AND_TWO, [2, 3]),
            (THREE_AND_TWO + [[]], [1, 2, 3]),
            (THREE + [[], []], [1, 1, 1, 3]),
        ):
            with self.subTest(lists=lists):
                rings = telling(Camp(lists)).rings
                self.assertEqual(sorted(len(ring) for ring in rings), lengths)
                self.assertTrue(plainly_none(lists, rings))

    def test_a_ring_of_four_has_steady_pairs(self):
        self.assertIs(type(telling(Camp(FOUR))), Steady)

    def test_the_kinds_of_the_fields(self):
        pairs = telling(Camp(FOUR)).pairs
        self.assertIs(type(pairs), list)
        for pair in pairs:
            self.assertIs(type(pair), tuple)
            self.assertEqual([type(camper) for camper in pair], [int, int])
        rings = telling(Camp(THREE)).rings
        self.assertIs(type(rings), list)
        for ring in rings:
            self.assertIs(type(ring), list)
            self.assertTrue(all(type(camper) is int for camper in ring))

    def test_asked_again_it_tells_the_same(self):
        for lists in (FOUR, [[1], [0]]):
            camp = Camp(lists)
            answer = telling(camp)
            kept = list(answer.pairs)
            answer.pairs.reverse()
            answer.pairs.append((0, 0))
            self.assertEqual(telling(camp).pairs, kept)
        for lists in (THREE, FIVE, TWICE_THREE):
            camp = Camp(lists)
            answer = telling(camp)
            kept = deepcopy(answer.rings)
            answer.rings[0].reverse()
            answer.rings[-1].clear()
            answer.rings.append([9])
            self.assertEqual(telling(camp).rings, kept)

    def test_never_both(self):
        for lists in list(some_lists(4, 60, 1)) + list(ringed_lists(5, 5, 20, 2)) + list(ringed_lists(5, 3, 20, 3)):
            camp = Camp(lists)
            ways = [Rings(rings).holds(camp) for rings in all_rings(len(lists))]
            self.assertIs(any(ways), all_steady(camp) == [])


class Answers(unittest.TestCase):
    def test_straight_under_answer(self):
        self.assertEqual(Steady.__bases__, (Answer,))
        self.assertEqual(Rings.__bases__, (Answer,))
        self.assertEqual(Answer.__bases__, (object,))

    def test_an_answer_by_itself_holds_of_no_camp(self):
        for lists in ([[]], [[1], [0]], THREE):
            self.assertIs(Answer().holds(Camp(lists)), False)

    def test_pairs_are_copied(self):
        handed = [(3, 2), (1, 0)]
        answer = Steady(handed)
        self.assertEqual(answer.pairs, [(3, 2), (1, 0)])
        answer.holds(Camp(FOUR))
        self.assertEqual(handed, [(3, 2), (1, 0)])
        handed.append((0, 1))
        self.assertEqual(answer.pairs, [(3, 2), (1, 0)])
        answer.pairs.clear()
        self.assertEqual(handed, [(3, 2), (1, 0), (0, 1)])

    def test_rings_are_copied(self):
        handed = [[3], [1, 2, 0]]
        answer = Rings(handed)
        self.assertEqual(answer.rings, [[3], [1, 2, 0]])
        answer.holds(Camp(THREE))
        self.assertEqual(handed, [[3], [1, 2, 0]])
        handed[0].append(4)
        handed.append([5])
        self.assertEqual(answer.rings, [[3], [1, 2, 0]])
        answer.rings[1].clear()
        self.assertEqual(handed, [[3, 4], [1, 2, 0], [5]])

    def test_asking_changes_no_field(self):
        steady, rings = Steady([(2, 3), (0, 1)]), Rings([[1, 2, 0], [3]])
        for lists in (FOUR, THREE):
            steady.holds(Camp(lists))
            rings.holds(Camp(lists))
        self.assertEqual(steady.pairs, [(2, 3), (0, 1)])
        self.assertEqual(rings.rings, [[1, 2, 0], [3]])


class SteadyHolds(unittest.TestCase):
    def check_holds(self, lists, pairs):
        answer = Steady(pairs).holds(Camp(lists))
        self.assertIs(answer, plainly_steady(lists, pairs), (lists, pairs))

    def test_every_few_pairs_held_against_a_plain_look(self):
        chance = Random(4)
        for size, count in ((2, 4), (3, 60), (4, 60), (5, 30), (6, 12)):
            twos = [(one, other) for one in range(size) for other in range(size) if one != other]
            for lists in some_lists(size, count, 400 + size):
                for length in range(3):
                    for pairs in combinations(twos, length):
                        self.check_holds(lists, chance.sample(pairs, length))

    def test_steady_pairs_of_this_camp_and_of_another(self):
        chance = Random(5)
        for size in range(1, 7):
            camps = list(some_lists(size, 60, 500 + size))
            for lists, other in zip(camps, camps[1:]):
                for pairs in plain_all_steady(lists):
                    flipped = [chance.choice((pair, pair[::-1])) for pair in chance.sample(pairs, len(pairs))]
                    self.assertIs(Steady(flipped).holds(Camp(lists)), True)
                    self.check_holds(other, flipped)
                    self.check_holds(lists, flipped[1:])
                    self.check_holds(lists, flipped + flipped[:1])

    def test_by_the_words(self):
        four = Camp(FOUR)
        self.assertIs(Steady([(0, 1), (2, 3)]).holds(four), True)
        self.assertIs(Steady([(2, 1), (3, 0)]).holds(four), True)
        self.assertIs(Steady([]).holds(four), False)
        self.assertIs(Steady([(0, 1)]).holds(four), False)
        self.assertIs(Steady([(0, 2), (1, 3)]).holds(four), False)
        self.assertIs(Steady([(0, 1), (1, 2), (2, 3)]).holds(four), False)
        self.assertIs(Steady([(0, 1), (2, 3), (0, 1)]).holds(four), False)
        self.assertIs(Steady([(0, 1), (2, 3), (1, 0)]).holds(four), False)

    def test_no_pairs_at_all(self):
        self.assertIs(Steady([]).holds(Camp([[]])), True)
        self.assertIs(Steady([]).holds(Camp([[1], []])), True)
        self.assertIs(Steady([]).holds(Camp([[1], [0]])), False)

    def test_by_the_fields_as_they_stand_then(self):
        camp = Camp([[1], [0], [3], [2]])
        answer = Steady([(0, 1)])
        self.assertIs(answer.holds(camp), False)
        answer.pairs.append((3, 2))
        self.assertIs(answer.holds(camp), True)
        answer.pairs[0] = (0, 2)
        self.assertIs(answer.holds(camp), False)
        answer.pairs = [(2, 3), (1, 0)]
        self.assertIs(answer.holds(camp), True)

    def test_by_the_camp_that_it_is_asked_with(self):
        answer = telling(Camp([[1], [0], []]))
        self.assertIs(answer.holds(Camp([[1], [0], []])), True)
        self.assertIs(answer.holds(Camp([[2], [], [0]])), False)
        self.assertIs(answer.holds(Camp([[2, 1], [0], [0]])), False)
        self.assertIs(answer.holds(Camp([[], [], []])), False)


class RingsHold(unittest.TestCase):
    def check_holds(self, lists, rings):
        answer = Rings(rings).holds(Camp(lists))
        self.assertIs(answer, plainly_none(lists, rings), (lists, rings))

    def check_changed(self, chance, lists, rings):
        size = len(lists)
        one, other = chance.sample(range(size), 2)
        swap = {one: other, other: one}
        self.check_holds(lists, [[swap.get(c, c) for c in ring] for ring in rings])
        self.check_holds(lists, [ring[::-1] for ring in rings])
        left = chance.randrange(len(rings))
        self.check_holds(lists, rings[:left] + rings[left + 1:])
        self.check_holds(lists, rings + [[one]])
        self.check_holds(lists, rings + rings[left:left + 1])
        self.check_holds(lists, [ring + [one] if k == left else ring for k, ring in enumerate(rings)])
        missing = [[c for c in ring if c != one] for ring in rings]
        self.check_holds(lists, [ring for ring in missing if ring])
        self.check_holds(lists, [[other if c == one else c for c in ring] for ring in rings])

    def test_all_rings_of_some_camps_held_against_a_plain_look(self):
        chance = Random(6)
        for size, count in ((1, 2), (2, 6), (3, 60), (4, 60), (5, 16), (6, 5)):
            camps = list(some_lists(size, count, 600 + size))
            for length in range(3, min(size, 5) + 1):
                camps += list(ringed_lists(size, length, count, 700 + 10 * size + length))
            for lists in camps:
                for rings in all_rings(size):
                    self.check_holds(lists, turned(chance, rings))

    def test_good_rings_changed_and_asked_of_another_camp(self):
        chance = Random(7)
        for size, count in ((3, 40), (4, 40), (5, 40), (6, 10)):
            for length in range(3, min(size, 5) + 1):
                camps = list(ringed_lists(size, length, count, 800 + 10 * size + length))
                for lists, other in zip(camps, camps[1:]):
                    for rings in all_rings(size):
                        if plainly_good(lists, rings):
                            told = turned(chance, rings)
                            self.check_holds(lists, told)
                            self.check_holds(other, told)
                            self.check_changed(chance, lists, told)

    def test_by_the_words(self):
        three = Camp(THREE)
        self.assertIs(Rings([[0, 1, 2], [3]]).holds(three), True)
        self.assertIs(Rings([[3], [2, 0, 1]]).holds(three), True)
        self.assertIs(Rings([[0, 2, 1], [3]]).holds(three), False)
        self.assertIs(Rings([[0, 1, 2]]).holds(three), False)
        self.assertIs(Rings([[3]]).holds(three), False)
        self.assertIs(Rings([]).holds(three), False)
        self.assertIs(Rings([[0, 1, 2], [3], [3]]).holds(three), False)
        self.assertIs(Rings([[0, 1, 2], [0, 1, 2], [3]]).holds(three), False)
        self.assertIs(Rings([[0, 1, 2, 3]]).holds(three), False)
        self.assertIs(Rings([[0, 1], [2], [3]]).holds(three), False)
        self.assertIs(Rings([[3, 1, 2], [0]]).holds(three), False)
        self.assertIs(Rings([[0, 1, 2, 3, 4]]).holds(Camp(FIVE)), True)
        self.assertIs(Rings([[1, 2, 3, 4, 0], [5]]).holds(Camp(FIVE + [[]])), True)
        self.assertIs(Rings([[4, 3, 2, 1, 0]]).holds(Camp(FIVE)), False)
        self.assertIs(Rings([[3, 4, 5], [1, 2, 0]]).holds(Camp(TWICE_THREE)), True)
        self.assertIs(Rings([[4, 3], [0, 1, 2]]).holds(Camp(THREE_AND_TWO)), True)
        self.assertIs(Rings([[4], [3], [0, 1, 2]]).holds(Camp(THREE_AND_TWO)), False)

    def test_good_rings_without_one_of_three_or_five(self):
        for lists, rings in (
            ([[]], [[0]]),
            ([[1], [0]], [[0, 1]]),
            (FOUR, [[0, 3, 2, 1]]),
            (FOUR, [[0, 3], [1, 2]]),
            (FOUR + [[], []], [[0, 3, 2, 1], [5], [4]]),
            ([[1, 5], [2, 0], [3, 1], [4, 2], [5, 3], [0, 4]], [[0, 1, 2, 3, 4, 5]]),
        ):
            with self.subTest(rings=rings):
                self.assertTrue(plainly_good(lists, rings))
                self.assertIs(Rings(rings).holds(Camp(lists)), False)

    def test_two_who_would_each_rather_have_the_other_than_its_last_one(self):
        ring = [[0, 1, 2], [3]]
        # Camper 3 is alone: whoever would rather have it than its last one breaks the ring.
        self.assertIs(Rings(ring).holds(Camp([[1, 2, 3], [2, 0], [0, 1], [0]])), True)
        self.assertIs(Rings(ring).holds(Camp([[1, 3, 2], [2, 0], [0, 1], [0]])), False)
        self.assertIs(Rings(ring).holds(Camp([[1, 3, 2], [2, 0], [0, 1], []])), True)
        # Two who are alone, and would share.
        self.assertIs(Rings([[0, 1, 2], [3], [4]]).holds(Camp(THREE + [[]])), True)
        self.assertIs(Rings([[0, 1, 2], [3], [4]]).holds(Camp(THREE_AND_TWO)), False)
        # One of a pair, who would rather have one of the ring, and the other way too.
        pair = [[0, 1, 2], [3, 4]]
        self.assertIs(Rings(pair).holds(Camp([[1, 3, 2], [2, 0], [0, 1], [4, 0], [3]])), True)
        self.assertIs(Rings(pair).holds(Camp([[1, 2, 3], [2, 0], [0, 1], [0, 4], [3]])), True)
        self.assertIs(Rings(pair).holds(Camp([[1, 3, 2], [2, 0], [0, 1], [0, 4], [3]])), False)

    def test_a_next_one_who_would_not_share(self):
        self.assertIs(Rings([[0, 1, 2]]).holds(Camp([[1, 2], [2], [0, 1]])), False)
        self.assertIs(Rings([[0, 1, 2]]).holds(Camp([[1, 2], [2, 0], [0]])), False)
        self.assertIs(Rings([[0, 1, 2], [3, 4]]).holds(Camp(THREE[:3] + [[4], []])), False)
        self.assertIs(Rings([[0, 1, 2], [3, 4]]).holds(Camp(THREE[:3] + [[], [3]])), False)

    def test_an_empty_ring(self):
        self.assertIs(Rings([[0, 1, 2], [], [3]]).holds(Camp(THREE)), False)

    def test_by_the_fields_as_they_stand_then(self):
        camp = Camp(THREE)
        answer = Rings([[0, 1, 2]])
        self.assertIs(answer.holds(camp), False)
        answer.rings.append([3])
        self.assertIs(answer.holds(camp), True)
        answer.rings[0].reverse()
        self.assertIs(answer.holds(camp), False)
        answer.rings = [[3], [1, 2, 0]]
        self.assertIs(answer.holds(camp), True)

    def test_by_the_camp_that_it_is_asked_with(self):
        answer = telling(Camp(THREE))
        self.assertIs(answer.holds(Camp(THREE)), True)
        self.assertIs(answer.holds(Camp(FOUR)), False)
        self.assertIs(answer.holds(Camp([[2, 1], [0, 2], [1, 0], []])), False)
        self.assertIs(answer.holds(Camp([[], [], [], []])), False)


class AllSteady(unittest.TestCase):
    def test_held_against_a_plain_look(self):
        for lists in camps_to_tell_of():
            camp = Camp(lists)
            self.assertEqual(all_steady(camp), plain_all_steady(lists), lists)
            self.assertEqual(camp.lists(), lists)

    def test_the_lesser_first_and_rising_in_the_order_of_lists(self):
        self.assertEqual(all_steady(Camp(FOUR)), [[(0, 1), (2, 3)], [(0, 3), (1, 2)]])
        six = [[3], [4, 5], [5, 4], [0], [2, 1], [1, 2]]
        self.assertEqual(all_steady(Camp(six)), [[(0, 3), (1, 4), (2, 5)], [(0, 3), (1, 5), (2, 4)]])

    def test_none(self):
        for lists in (THREE[:3], THREE, FIVE, TWICE_THREE, THREE_AND_TWO):
            with self.subTest(lists=lists):
                self.assertEqual(all_steady(Camp(lists)), [])

    def test_all_alone(self):
        for size in range(1, 7):
            self.assertEqual(all_steady(Camp([[] for _ in range(size)])), [[]])

    def test_the_kinds_of_the_answer(self):
        found = all_steady(Camp(FOUR))
        self.assertIs(type(found), list)
        for pairs in found:
            self.assertIs(type(pairs), list)
            for pair in pairs:
                self.assertIs(type(pair), tuple)
                self.assertEqual([type(camper) for camper in pair], [int, int])

    def test_the_answer_is_the_askers_own(self):
        camp = Camp(FOUR)
        found = all_steady(camp)
        found[0].clear()
        self.assertEqual(found[1], [(0, 3), (1, 2)])
        found.pop()
        self.assertEqual(all_steady(camp), [[(0, 1), (2, 3)], [(0, 3), (1, 2)]])
        found = all_steady(Camp([[], []]))
        found[0].append((0, 1))
        self.assertEqual(all_steady(Camp([[], []])), [[]])


def plainly_alone(lists, pairs):
    return [camper for camper in range(len(lists)) if not any(camper in pair for pair in pairs)]


class Alone(unittest.TestCase):
    def test_the_same_in_all_steady_pairs(self):
        for lists in camps_to_tell_of():
            camp = Camp(lists)
            steady = plain_all_steady(lists)
            if steady:
                given = alone(camp)
                for pairs in steady:
                    self.assertEqual(given, plainly_alone(lists, pairs), lists)
                self.assertEqual(camp.lists(), lists)

    def test_rising(self):
        self.assertEqual(alone(Camp([[]])), [0])
        self.assertEqual(alone(Camp([[1], [0]])), [])
        self.assertEqual(alone(Camp([[], [4], [], [], [1], []])), [0, 2, 3, 5])
        self.assertEqual(alone(Camp(FOUR)), [])

    def test_the_answer_is_the_askers_own(self):
        camp = Camp([[], [2], [1], []])
        given = alone(camp)
        self.assertIs(type(given), list)
        given.clear()
        self.assertEqual(alone(camp), [0, 3])


class Mates(unittest.TestCase):
    def test_held_against_a_plain_look(self):
        for lists in camps_to_tell_of():
            camp = Camp(lists)
            steady = plain_all_steady(lists)
            if steady:
                for camper, wishes in enumerate(lists):
                    had = {sum(pair) - camper for pairs in steady for pair in pairs if camper in pair}
                    self.assertEqual(mates(camp, camper), [o for o in wishes if o in had], lists)
                self.assertEqual(camp.lists(), lists)

    def test_in_the_order_of_the_campers_list(self):
        camp = Camp(FOUR)
        self.assertEqual([mates(camp, camper) for camper in range(4)], [[3, 1], [0, 2], [1, 3], [2, 0]])
        # Here camper 4 lists 2 first, and whom it never has in steady pairs besides.
        camp = Camp([[3], [4, 5], [5, 4], [0], [0, 2, 3, 1], [1, 2]])
        self.assertEqual(mates(camp, 4), [2, 1])
        self.assertEqual(mates(camp, 1), [4, 5])
        self.assertEqual(mates(camp, 0), [3])

    def test_a_camper_who_is_alone(self):
        self.assertEqual(mates(Camp([[]]), 0), [])
        self.assertEqual(mates(Camp([[1, 2], [0], [0]]), 2), [])

    def test_the_answer_is_the_askers_own(self):
        camp = Camp(FOUR)
        given = mates(camp, 0)
        self.assertIs(type(given), list)
        given.clear()
        self.assertEqual(mates(camp, 0), [3, 1])
        self.assertEqual(camp.lists(), FOUR)


class Refusals(unittest.TestCase):
    def refused(self, ask):
        with self.assertRaises(NoneSteady) as caught:
            ask()
        self.assertIsInstance(caught.exception, CampError)
        return caught.exception.rings

    def test_camps_without_steady_pairs(self):
        for lists in camps_to_tell_of():
            camp = Camp(lists)
            if not plain_all_steady(lists):
                self.assertTrue(plainly_none(lists, self.refused(lambda: alone(camp))), lists)
                for camper in range(camp.size):
                    self.assertTrue(plainly_none(lists, self.refused(lambda: mates(camp, camper))), lists)
                self.assertEqual(camp.lists(), lists)

    def test_the_rings_are_the_askers_own(self):
        camp = Camp(THREE)
        for ask in (lambda: alone(camp), lambda: mates(camp, 3)):
            first = self.refused(ask)
            kept = deepcopy(first)
            first[0].reverse()
            first[-1].clear()
            first.append([7])
            self.assertEqual(self.refused(ask), kept)
            self.assertTrue(Rings(kept).holds(camp))
            self.assertTrue(telling(camp).holds(camp))

    def test_what_is_no_camper(self):
        # Ahead of NoneSteady too: the last two camps have no steady pairs.
        for lists in ([[]], [[1], [0]], FOUR, THREE, TWICE_THREE):
            camp, size = Camp(lists), len(lists)
            for place, value in enumerate(NO_NUMBERS + (-1, -2, -size, size, size + 1, 7, 10**5000, -(10**5000))):
                with self.subTest(lists=lists, place=place):
                    with self.assertRaises(NoCamper) as caught:
                        mates(camp, value)
                    self.assertIsInstance(caught.exception, CampError)


if __name__ == "__main__":
    unittest.main()
