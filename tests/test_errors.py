"""The error classes: where each stands, and the fields that it has."""

import unittest

from tentpairs.errors import BadCamp, BadPairs, BadText, CampError, NoCamper, NoneSteady


class Classes(unittest.TestCase):
    def test_camp_error_stands_straight_under_value_error(self):
        self.assertEqual(CampError.__bases__, (ValueError,))

    def test_all_others_stand_straight_under_camp_error(self):
        for error in (BadCamp, BadPairs, NoCamper, NoneSteady, BadText):
            with self.subTest(error=error.__name__):
                self.assertEqual(error.__bases__, (CampError,))

    def test_errors_without_fields_can_be_raised_and_taken(self):
        for error in (CampError, BadCamp, BadPairs, NoCamper):
            with self.subTest(error=error.__name__):
                with self.assertRaises(CampError):
                    raise error("words")


class Fields(unittest.TestCase):
    def test_bad_text_has_its_row(self):
        self.assertEqual(BadText(3).row, 3)

    def test_none_steady_has_its_rings(self):
        self.assertEqual(NoneSteady([[0, 1, 2], [3]]).rings, [[0, 1, 2], [3]])

    def test_rings_are_the_askers_own(self):
        handed = [[0, 1, 2], [3]]
        error = NoneSteady(handed)
        handed[0].append(4)
        handed.append([5])
        self.assertEqual(error.rings, [[0, 1, 2], [3]])
        error.rings[1].append(6)
        self.assertEqual(handed, [[0, 1, 2, 4], [3], [5]])

    def test_the_list_handed_in_is_kept_nowhere(self):
        handed = [[0, 1, 2]]
        self.assertFalse(any(kept is handed for kept in NoneSteady(handed).args))


if __name__ == "__main__":
    unittest.main()
