"""Point [7]: camps written and read."""

import re
import unittest
from itertools import product
from random import Random

from tentpairs.camps import Camp, breaking
from tentpairs.errors import BadText, CampError
from tentpairs.notes import read, written
from tests.samples import camps_to_tell_of, some_lists

SIX = "0: 1 2 3 4 5\n1: 0\n2: 5 4 3\n3:\n4: 0 1 2 3 5\n5: 4"


def plain_refusal(text):
    """The number of the first row that is not of the form, one more than all, or None."""
    rows = text.split("\n")
    for number, row in enumerate(rows, 1):
        figures = re.findall("[0-9]", row)
        form = re.fullmatch("[0-5]:( [0-5])*", row)
        if number > 6 or not form or int(figures[0]) != number - 1 or len(set(figures)) < len(figures):
            return number
    if any(int(figure) >= len(rows) for figure in re.findall("[0-9]", text)):
        return len(rows) + 1
    return None


class Written(unittest.TestCase):
    def test_to_the_sign(self):
        for lists, text in (
            ([[]], "0:"),
            ([[], []], "0:\n1:"),
            ([[1], [0]], "0: 1\n1: 0"),
            ([[1, 2], [2, 0], [0, 1], []], "0: 1 2\n1: 2 0\n2: 0 1\n3:"),
            ([[4, 3, 2, 1], [], [], [], [0]], "0: 4 3 2 1\n1:\n2:\n3:\n4: 0"),
            ([[1, 2, 3, 4, 5], [0], [5, 4, 3], [], [0, 1, 2, 3, 5], [4]], SIX),
        ):
            with self.subTest(text=text):
                self.assertEqual(written(Camp(lists)), text)
                self.assertEqual(read(text).lists(), lists)

    def test_read_again_it_is_the_same_camp(self):
        for lists in camps_to_tell_of():
            camp = Camp(lists)
            text = written(camp)
            self.assertIs(type(text), str)
            rows = [" ".join([f"{camper}:"] + [str(o) for o in row]) for camper, row in enumerate(lists)]
            self.assertEqual(text.split("\n"), rows)
            again = read(text)
            self.assertIs(type(again), Camp)
            self.assertEqual((again.size, again.lists()), (len(lists), lists))
            self.assertEqual(written(again), text)
            self.assertEqual(camp.lists(), lists)

    def test_what_is_read_is_a_camp_to_ask(self):
        self.assertEqual(breaking(read("0: 1 2\n1: 2 0\n2: 0 1"), [(0, 1)]), [(1, 2)])

    def test_two_readings_are_apart(self):
        first, second = read(SIX), read(SIX)
        first.lists()[0].clear()
        self.assertEqual(written(first), SIX)
        self.assertEqual(written(second), SIX)


class Refused(unittest.TestCase):
    def check_refused(self, text, row):
        with self.assertRaises(BadText) as caught:
            read(text)
        self.assertIsInstance(caught.exception, CampError)
        self.assertIs(type(caught.exception.row), int)
        self.assertEqual(caught.exception.row, row, repr(text))

    def test_what_is_no_text(self):
        for value in (None, 0, 1, True, False, 1.5, [], ["0:"], ("0:",), {}, {"0:": 1}, b"0:"):
            with self.subTest(value=repr(value)):
                self.check_refused(value, 1)

    def test_line_feeds(self):
        self.check_refused("", 1)
        self.check_refused("\n", 1)
        self.check_refused("\n0:", 1)
        self.check_refused("0:\n", 2)
        self.check_refused("0:\n\n", 2)
        self.check_refused("0: 1\n1: 0\n", 3)
        self.check_refused("0: 1\n\n1: 0", 2)
        self.check_refused("0: 1\n1: 0\n\n2:", 3)
        self.check_refused(SIX + "\n", 7)
        self.check_refused(SIX + "\n\n", 7)

    def test_blanks(self):
        for row in (
            " 1: 0", "1 : 0", "1:  0", "1: 0 ", "1: ", " 1:", "1 :", "1:0", "1: 02", "1: 0  2", "1 0", " ", "1: 0 2 ",
        ):
            with self.subTest(row=row):
                self.check_refused(f"0: 1\n{row}\n2: 1", 2)

    def test_other_signs(self):
        for row in (
            "1:\t0", "\t1: 0", "1: 0\t", "1:\t", "\t", "1: a", "1: -0", "1: +0", "1: 0,2", "1; 0", "1", "1::", "~",
            "1: :", "1: 0:", "one: 0", "1: 0 2.", "1: 00", "01: 0", "+1: 0", "1: _0", "1.: 0", "1: 0_2", "!1: 0",
        ):
            with self.subTest(row=row):
                self.check_refused(f"0: 1\n{row}\n2: 1", 2)

    def test_figures_out_of_the_form(self):
        for figure in "6789":
            self.check_refused(f"0: {figure}", 1)
            self.check_refused(f"0: 1\n1: 0 {figure}", 2)
            self.check_refused(SIX + f" {figure}", 6)
        self.check_refused("0: 10", 1)
        self.check_refused("0: 1 1\n1: 0", 1)
        self.check_refused("0: 1\n1: 0 2 0\n2:", 2)
        self.check_refused("0: 0", 1)
        self.check_refused("0: 1\n1: 0 1", 2)
        self.check_refused(SIX + " 5", 6)
        # A figure that comes twice or is the row's own counts ahead of one that there isn't.
        self.check_refused("0: 5 5", 1)
        self.check_refused("0: 5\n1: 1", 2)

    def test_a_rows_number_is_its_place(self):
        self.check_refused("1:", 1)
        self.check_refused("1:\n0:", 1)
        self.check_refused("0:\n0:", 2)
        self.check_refused("0:\n2:\n1:", 2)
        self.check_refused("0:\n1:\n3:", 3)
        self.check_refused(":", 1)
        self.check_refused("0:\n:", 2)

    def test_more_than_six_rows(self):
        self.check_refused(SIX + "\n6:", 7)
        self.check_refused(SIX + "\n6: 0 1", 7)
        self.check_refused(SIX + "\n6:\n7:\nx", 7)
        self.check_refused("\n".join(f"{row}:" for row in range(12)), 7)
        self.check_refused("0:\n1:\n2: x\n3:\n4:\n5:\n6:", 3)

    def test_the_first_row_that_is_wrong(self):
        self.check_refused("0: x\n1: x\n2: x", 1)
        self.check_refused("0: 1\n1: 0 \n2: 2", 2)
        self.check_refused("0: 1\n1: 0\n2: 2\n", 3)

    def test_a_camper_that_there_is_not(self):
        self.check_refused("0: 1", 2)
        self.check_refused("0: 5", 2)
        self.check_refused("0: 2\n1: 0", 3)
        self.check_refused("0: 1\n1: 0 2", 3)
        self.check_refused("0: 1\n1:\n2: 3", 4)
        self.check_refused("0: 4\n1:\n2:\n3:", 5)
        self.check_refused("0:\n1: 5\n2:\n3:\n4: 0", 6)
        # A row out of form comes first, wherever it stands.
        self.check_refused("0: 5\n1:  0", 2)
        self.check_refused("0: 5\n1: 0\n", 3)

    def test_changed_texts_held_against_a_plain_look(self):
        chance = Random(8)
        signs = " 0123456789:\t\n~a-"
        texts = [written(Camp(lists)) for size in range(1, 7) for lists in some_lists(size, 40, 900 + size)]
        for text in texts * 12:
            for _ in range(chance.randrange(1, 3)):
                start = chance.randrange(len(text) + 1)
                end = start + chance.randrange(2)
                text = text[:start] + chance.choice(("", chance.choice(signs))) + text[end:]
            row = plain_refusal(text)
            if row is None:
                self.assertEqual(written(read(text)), text)
            else:
                self.check_refused(text, row)

    def test_every_short_text(self):
        for length in range(6):
            for signs in product("01:\n 2", repeat=length):
                text = "".join(signs)
                if text in ("0:", "0:\n1:"):
                    self.assertEqual(written(read(text)), text)
                else:
                    self.check_refused(text, plain_refusal(text))


if __name__ == "__main__":
    unittest.main()
