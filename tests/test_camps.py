"""Points [1], [2] and [3]: camps, pairs, and who breaks them."""

import unittest
from copy import deepcopy

from tentpairs.camps import Camp, breaking
from tentpairs.errors import BadCamp, BadPairs, CampError
from tests.samples import NO_NUMBERS, all_lists, all_pairs, plain_breaking, some_lists

NO_CAMPERS = (-1, -2, 2, 3, 6, 7, 10**5000, -(10**5000))


class Camps(unittest.TestCase):
    def check_camp(self, lists):
        camp = Camp(deepcopy(lists))
        self.assertIs(type(camp.size), int)
        self.assertEqual(camp.size, len(lists))
        self.assertEqual(camp.lists(), lists)

    def test_lists_of_all_others(self):
        for size in range(1, 7):
            with self.subTest(size=size):
                rising = [[o for o in range(size) if o != c] for c in range(size)]
                self.check_camp(rising)
                self.check_camp([row[::-1] for row in rising])

    def test_lists_of_none(self):
        for size in range(1, 7):
            with self.subTest(size=size):
                self.check_camp([[] for _ in range(size)])

    def test_lists_of_some(self):
        self.check_camp([[1], [2], []])
        self.check_camp([[3, 1], [], [0], [2, 0]])
        self.check_camp([[5], [0, 4, 2], [], [1], [3, 0], [2, 1, 0, 4, 3]])

    def test_every_small_camp(self):
        for size in range(1, 4):
            for lists in all_lists(size):
                self.check_camp(lists)

    def test_some_large_camps(self):
        for size in range(4, 7):
            for lists in some_lists(size, 60, size):
                self.check_camp(lists)

    def test_one_list_handed_in_for_two_campers(self):
        shared = [2]
        camp = Camp([shared, shared, []])
        given = camp.lists()
        given[0].append(1)
        self.assertEqual(given[1], [2])


class CampsRefused(unittest.TestCase):
    def check_refused(self, lists):
        with self.assertRaises(BadCamp) as caught:
            Camp(lists)
        self.assertIsInstance(caught.exception, CampError)

    def test_not_a_list(self):
        for value in (None, 0, 3, True, "", "01", (), ([], []), ([1], [0]), {}, {0: []}, 1.5, {1}):
            with self.subTest(value=repr(value)):
                self.check_refused(value)

    def test_not_lists_within_it(self):
        for value in (None, 0, 1, True, "", "1", (), (1,), {}, {1: 1}, {1}, range(1)):
            with self.subTest(value=repr(value)):
                self.check_refused([value])
                self.check_refused([value, []])
                self.check_refused([[], value])

    def test_no_camper(self):
        self.check_refused([])

    def test_more_than_six(self):
        for size in (7, 8, 20):
            with self.subTest(size=size):
                self.check_refused([[] for _ in range(size)])
                self.check_refused([[o for o in range(size) if o != c] for c in range(size)])

    def test_what_is_no_whole_number(self):
        for value in NO_NUMBERS:
            with self.subTest(value=repr(value)):
                self.check_refused([[value], []])
                self.check_refused([[], [value]])
                self.check_refused([[1, value], [0], [0]])
                self.check_refused([[1], [0], [value, 0]])

    def test_a_camper_that_there_is_not(self):
        for place, value in enumerate(NO_CAMPERS):
            with self.subTest(place=place):
                self.check_refused([[value], []])
                self.check_refused([[], [0, value]])
        self.check_refused([[0]])
        self.check_refused([[1]])
        self.check_refused([[6], [], [], [], [], []])
        self.check_refused([[-1], [], [], [], [], []])

    def test_a_campers_own_number(self):
        for size in range(1, 7):
            for camper in range(size):
                with self.subTest(size=size, camper=camper):
                    rows = [[] for _ in range(size)]
                    rows[camper] = list(range(size))
                    self.check_refused(rows)
                    rows[camper] = [camper]
                    self.check_refused(rows)

    def test_a_number_twice(self):
        self.check_refused([[1, 1], [0]])
        self.check_refused([[1, 2, 1], [], []])
        self.check_refused([[], [], [0, 1, 1]])
        self.check_refused([[], [], [], [], [], [4, 3, 2, 1, 0, 4]])


class CampsKeepTheirOwn(unittest.TestCase):
    LISTS = [[1, 2], [2, 0], [0, 1], []]

    def test_what_is_handed_in_is_not_changed(self):
        handed = deepcopy(self.LISTS)
        camp = Camp(handed)
        camp.lists()
        breaking(camp, [(0, 1)])
        self.assertEqual(handed, self.LISTS)

    def test_what_is_refused_is_not_changed(self):
        handed = [[1, 2], [2, 0], [0, 0]]
        with self.assertRaises(BadCamp):
            Camp(handed)
        self.assertEqual(handed, [[1, 2], [2, 0], [0, 0]])

    def test_lists_handed_in_are_not_kept(self):
        handed = deepcopy(self.LISTS)
        camp = Camp(handed)
        handed[0].reverse()
        handed[1].clear()
        handed[3] = [0]
        handed.append([])
        self.assertEqual(camp.size, 4)
        self.assertEqual(camp.lists(), self.LISTS)
        self.assertEqual(breaking(camp, []), [(0, 1), (0, 2), (1, 2)])

    def test_lists_given_back_are_the_askers_own(self):
        camp = Camp(deepcopy(self.LISTS))
        given = camp.lists()
        given[0].reverse()
        given[1].clear()
        given.pop()
        self.assertEqual(camp.size, 4)
        self.assertEqual(camp.lists(), self.LISTS)
        self.assertEqual(breaking(camp, []), [(0, 1), (0, 2), (1, 2)])

    def test_two_camps_of_the_same_lists_are_apart(self):
        handed = deepcopy(self.LISTS)
        first, second = Camp(handed), Camp(handed)
        first.lists()[0].clear()
        self.assertEqual(second.lists(), self.LISTS)


class Pairs(unittest.TestCase):
    FOUR = [[1, 2, 3], [2, 0, 3], [0, 1, 3], [0, 1, 2]]

    def test_the_empty_list(self):
        self.assertEqual(breaking(Camp([[]]), []), [])
        self.assertEqual(breaking(Camp([[1], [0]]), []), [(0, 1)])

    def test_either_of_a_pair_first_and_in_any_order(self):
        camp = Camp(self.FOUR)
        wanted = [(1, 2)]
        for first in ((0, 1), (1, 0)):
            for second in ((2, 3), (3, 2)):
                with self.subTest(first=first, second=second):
                    self.assertEqual(breaking(camp, [first, second]), wanted)
                    self.assertEqual(breaking(camp, [second, first]), wanted)

    def test_pairs_handed_in_are_not_changed(self):
        handed = [(3, 2), (1, 0)]
        breaking(Camp(self.FOUR), handed)
        self.assertEqual(handed, [(3, 2), (1, 0)])

    def test_the_answer_is_the_askers_own(self):
        camp, handed = Camp(self.FOUR), [(1, 0), (2, 3)]
        given = breaking(camp, handed)
        self.assertIsNot(given, handed)
        given.clear()
        self.assertEqual(breaking(camp, handed), [(1, 2)])
        empty = []
        self.assertIsNot(breaking(Camp([[]]), empty), empty)


class PairsRefused(unittest.TestCase):
    # Camper 2 lists 0, and 3 is listed by 1, but neither is listed back.
    LISTS = [[1], [0, 3, 4], [0], [], [1, 5], [4]]

    def check_refused(self, pairs, lists=None):
        with self.assertRaises(BadPairs) as caught:
            breaking(Camp(self.LISTS if lists is None else lists), pairs)
        self.assertIsInstance(caught.exception, CampError)

    def test_not_a_list(self):
        for value in (None, 0, True, "", (), (0, 1), ((0, 1),), {}, {(0, 1): 1}, {(0, 1)}, 2.5):
            with self.subTest(value=repr(value)):
                self.check_refused(value)

    def test_not_tuples(self):
        for value in (None, 0, True, "01", [0, 1], {0: 1, 1: 0}, {0, 1}, range(2)):
            with self.subTest(value=repr(value)):
                self.check_refused([value])
                self.check_refused([(4, 5), value])

    def test_not_of_two(self):
        for value in ((), (0,), (0, 1, 4), (0, 1, 0), (0, 1, None)):
            with self.subTest(value=value):
                self.check_refused([value])
                self.check_refused([(4, 5), value])

    def test_what_is_no_whole_number(self):
        for value in NO_NUMBERS:
            with self.subTest(value=repr(value)):
                self.check_refused([(0, value)])
                self.check_refused([(value, 0)])
                self.check_refused([(1, value)])
                self.check_refused([(value, 1)])
                self.check_refused([(4, 5), (0, value)])

    def test_a_camper_that_there_is_not(self):
        for place, value in enumerate((-1, -2, -6, 6, 7, 10**5000, -(10**5000))):
            with self.subTest(place=place):
                for camper in range(6):
                    self.check_refused([(camper, value)])
                    self.check_refused([(value, camper)])
        self.check_refused([(0, -1)], [[1], [0]])
        self.check_refused([(-2, 1)], [[1], [0]])
        self.check_refused([(0, 2)], [[1], [0]])

    def test_one_with_itself(self):
        for camper in range(6):
            with self.subTest(camper=camper):
                self.check_refused([(camper, camper)])
        self.check_refused([(0, 0)], [[]])

    def test_two_who_would_not_share(self):
        for one, other in ((0, 2), (1, 3), (2, 3), (0, 5), (0, 3)):
            with self.subTest(one=one, other=other):
                self.check_refused([(one, other)])
                self.check_refused([(other, one)])
        self.check_refused([(0, 1), (4, 2)])

    def test_somebody_in_two_pairs(self):
        self.check_refused([(0, 1), (1, 4)])
        self.check_refused([(0, 1), (4, 1)])
        self.check_refused([(1, 0), (1, 4)])
        self.check_refused([(5, 4), (0, 1), (4, 1)])
        self.check_refused([(0, 1), (0, 1)])
        self.check_refused([(0, 1), (1, 0)])

    def test_what_is_refused_is_not_changed(self):
        handed = [(0, 1), (4, 1)]
        self.check_refused(handed)
        self.assertEqual(handed, [(0, 1), (4, 1)])


class Breaking(unittest.TestCase):
    def check_plainly(self, lists):
        camp = Camp(lists)
        for pairs in all_pairs(lists):
            answer = breaking(camp, pairs)
            if answer != plain_breaking(lists, pairs):
                self.fail(f"{lists} {pairs}: {answer}")
        self.assertEqual(camp.lists(), lists)

    def test_every_small_camp_with_all_its_pairs(self):
        for size in range(1, 4):
            for lists in all_lists(size):
                self.check_plainly(lists)

    def test_some_larger_camps_with_all_their_pairs(self):
        for size, count in ((4, 600), (5, 400), (6, 300)):
            for lists in some_lists(size, count, 100 + size):
                self.check_plainly(lists)

    def test_the_kinds_of_the_answer(self):
        answer = breaking(Camp([[1, 2], [2, 0], [0, 1]]), [])
        self.assertIs(type(answer), list)
        for pair in answer:
            self.assertIs(type(pair), tuple)
            self.assertEqual([type(camper) for camper in pair], [int, int])

    def test_the_lesser_first_and_rising(self):
        lists = [[o for o in range(5, -1, -1) if o != c] for c in range(6)]
        wanted = [(a, b) for a in range(6) for b in range(a + 1, 6)]
        self.assertEqual(breaking(Camp(lists), []), wanted)
        self.assertEqual(breaking(Camp(lists), [(1, 0)]), wanted[1:])

    def test_two_who_are_alone(self):
        self.assertEqual(breaking(Camp([[1], [0], [3], [2]]), [(2, 3)]), [(0, 1)])

    def test_one_alone_with_one_who_has_a_worse_mate(self):
        lists = [[2, 1], [0], [0]]
        self.assertEqual(breaking(Camp(lists), [(0, 1)]), [(0, 2)])
        self.assertEqual(breaking(Camp(lists), [(0, 2)]), [])

    def test_one_alone_whom_the_other_lists_but_does_not_break_for(self):
        self.assertEqual(breaking(Camp([[1, 2], [0], [0]]), [(1, 0)]), [])

    def test_two_with_mates_who_would_both_rather(self):
        lists = [[2, 1], [0], [0, 3], [2]]
        self.assertEqual(breaking(Camp(lists), [(0, 1), (2, 3)]), [(0, 2)])

    def test_two_with_mates_of_whom_one_would_rather(self):
        lists = [[2, 1], [0], [3, 0], [2]]
        self.assertEqual(breaking(Camp(lists), [(0, 1), (2, 3)]), [])

    def test_a_better_one_who_would_not_share(self):
        # Camper 0 lists 2 first, but 2 does not list 0: they neither share nor break.
        lists = [[2, 1], [0], []]
        self.assertEqual(breaking(Camp(lists), [(0, 1)]), [])
        self.assertEqual(breaking(Camp(lists), []), [(0, 1)])

    def test_pairs_do_not_break_themselves(self):
        lists = [[1], [0], [3], [2], [5], [4]]
        self.assertEqual(breaking(Camp(lists), [(0, 1), (2, 3), (4, 5)]), [])

    def test_steady_with_campers_alone(self):
        self.assertEqual(breaking(Camp([[], [2], [1], []]), [(2, 1)]), [])
        self.assertEqual(breaking(Camp([[], [], []]), []), [])

    def test_a_ring_of_three_breaks_whatever_it_is_given(self):
        camp = Camp([[1, 2], [2, 0], [0, 1]])
        self.assertEqual(breaking(camp, [(0, 1)]), [(1, 2)])
        self.assertEqual(breaking(camp, [(1, 2)]), [(0, 2)])
        self.assertEqual(breaking(camp, [(2, 0)]), [(0, 1)])


if __name__ == "__main__":
    unittest.main()
