import unittest

from cordbook.errors import Crowded, NoNote, NoSheet
from cordbook.notes import read, shown
from tests.samples import CROSSED_ONCE, EMPTY, HOPF, TREFOIL, chain, many_sheets

SIXTY = "9" * 60
PAIR = "1 | 0 1 2 3 | 2 3 0 1"


class ShownTest(unittest.TestCase):
    def test_no_crossing(self):
        self.assertEqual(shown(EMPTY), "0")
        self.assertEqual(shown(((), 1)), "1")

    def test_rings_of_several_figures(self):
        self.assertEqual(shown(((), 100)), "100")
        self.assertEqual(shown((CROSSED_ONCE[0], 37)), "37 | 0 1 0 1")
        self.assertEqual(shown(((), 1234567)), "1234567")

    def test_crossings(self):
        self.assertEqual(shown((((0, 1, 2, 3), (2, 3, 0, 1)), 1)), PAIR)
        self.assertEqual(shown(TREFOIL), "0 | 0 1 2 3 | 4 5 1 0 | 3 2 5 4")

    def test_lines_of_two_figures(self):
        self.assertEqual(shown(chain(7, 12)), "12 | 0 0 1 1 | 2 2 3 3 | 4 4 5 5 | 6 6 7 7 | 8 8 9 9 "
                                              "| 10 10 11 11 | 12 12 13 13")


class ReadTest(unittest.TestCase):
    def test_no_crossing(self):
        self.assertEqual(read("0"), EMPTY)
        self.assertEqual(read("1"), ((), 1))

    def test_crossings(self):
        self.assertEqual(read(PAIR), (((0, 1, 2, 3), (2, 3, 0, 1)), 1))
        self.assertEqual(read("0 | 0 0 1 1"), chain(1))

    def test_names_with_gaps_and_not_in_order(self):
        self.assertEqual(read("0 | 7 3 7 90 | 3 90 5 5"), (((0, 1, 0, 2), (1, 2, 3, 3)), 0))
        self.assertEqual(read("2 | 3 2 1 0 | 0 1 2 3"), (HOPF[0], 2))
        self.assertEqual(read("0 | 10 0 0 10"), (((0, 1, 1, 0),), 0))

    def test_names_of_sixty_figures(self):
        other = "1" + "0" * 59
        self.assertEqual(read(f"0 | {SIXTY} {other} {other} {SIXTY}"), (((0, 1, 1, 0),), 0))
        self.assertEqual(read(f"0 | {SIXTY} 9 {SIXTY} 9"), CROSSED_ONCE)

    def test_names_that_differ_in_the_last_of_sixty_figures(self):
        with self.assertRaises(NoSheet):
            read(f"0 | {SIXTY} 9 {SIXTY[:-1]}8 9")

    def test_many_rings(self):
        for rings in (10, 99, 100, 101, 2026, 10 ** 40, int(SIXTY)):
            self.assertEqual(read(str(rings)), ((), rings))
            self.assertEqual(read(f"{rings} | 5 6 5 6"), (CROSSED_ONCE[0], rings))

    def test_ten_crossings(self):
        self.assertEqual(read(shown(chain(10, 3))), chain(10, 3))

    def test_what_is_shown_is_read(self):
        for sheet in many_sheets():
            self.assertEqual(read(shown(sheet)), sheet)


class NoNoteTest(unittest.TestCase):
    def refused(self, texts):
        for text in texts:
            with self.subTest(text):
                with self.assertRaises(NoNote):
                    read(text)

    def test_empty_and_blank(self):
        self.refused(["", " ", "  ", "|", " | ", " | | "])

    def test_blanks_at_either_end(self):
        self.refused([" 0", "0 ", " " + PAIR, PAIR + " ", "\t0", "0\n", PAIR + "\n"])

    def test_a_nought_ahead(self):
        self.refused(["00", "01", "0007", "0" * 60, "0 | 00 1 00 1", "0 | 01 1 1 01", "0 | 0 01 01 0", "00 | 0 1 1 0"])

    def test_a_sign(self):
        self.refused(["-1", "+1", "-0", "+0", "0 | -1 0 -1 0", "0 | +1 0 0 +1", "0 | 1 0 -0 1", "-1 | 0 0 1 1"])

    def test_sixty_one_figures(self):
        long = "1" + "0" * 60
        self.refused([long, f"0 | {long} 0 0 {long}", f"0 | 0 {long} {long} 0", long + " | 0 0 1 1", "9" * 5000])

    def test_a_blank_too_many(self):
        self.refused(["1  | 0 1 1 0", "1 |  0 1 1 0", "1 | 0  1 1 0", "1 | 0 1 1  0", "1 | 0 1 1 0  | 2 2 3 3",
                      "1 | 0 1 1 0 |  2 2 3 3", "1 0", "1 1 | 0 1 1 0"])

    def test_a_blank_too_few(self):
        self.refused(["1| 0 1 1 0", "1 |0 1 1 0", "1|0 1 1 0", "1 | 01 1 0", "1 | 0 1 1 0| 2 2 3 3",
                      "1 | 0 1 1 0 |2 2 3 3", "1 | 0 1 1 0|2 2 3 3"])

    def test_a_bar_too_many_or_too_few(self):
        self.refused(["1 |", "1 | ", "| 0 1 1 0", " | 0 1 1 0", "1 | 0 1 1 0 |", "1 | 0 1 1 0 | ", "1 | | 0 1 1 0",
                      "1 |  | 0 1 1 0", "1 || 0 1 1 0", "1 | 0 1 1 0 | | 2 2 3 3", "| 1 | 0 1 1 0", "1 0 1 1 0",
                      "1 | 0 1 1 0 2 2 3 3", "1 | 0 1 | 1 0"])

    def test_a_crossing_of_other_than_four_numbers(self):
        self.refused(["0 | 0", "0 | 0 0", "0 | 0 1 1", "0 | 0 1 1 0 2", "0 | 0 1 1 0 | 2 2 3", "0 | 0 1 1 | 0 2 2",
                      "0 | 0 1 1 0 2 | 2 3 3 4 4", "0 | 0 0 1 1 2 2 3 3"])

    def test_other_signs_than_figures(self):
        self.refused(["x", "1x", "1.0", "1_0", "1e3", "0x1", "0 | a b b a", "0 | 0 1 1 O", "0 | 0,1,1,0", "0 / 0 1 1 0",
                      "0 | 0 1_0 1_0 0", "0 | 0 1 1 0;", "(0)", "~", "0 | 0\t1 1 0", "0 | 0 1 1 0\n| 2 2 3 3", "1\n"])

    def test_figures_that_are_no_ascii_signs(self):
        self.refused(["\u0661", "\u00b2", "0 | \u0661 1 1 \u0661", "0\u00a0| 0 1 1 0"])


class RefusalsTest(unittest.TestCase):
    def test_eleven_crossings(self):
        for n in (11, 12, 40):
            with self.assertRaises(Crowded):
                read(shown(chain(n)))

    def test_a_name_not_at_two_places(self):
        for text in ("0 | 0 1 1 2", "0 | 0 0 0 1", "0 | 4 4 4 4", "0 | 0 1 2 3", "0 | 0 0 1 1 | 0 2 2 3",
                     "3 | 0 0 1 1 | 0 0 2 2"):
            with self.subTest(text):
                with self.assertRaises(NoSheet):
                    read(text)

    def test_no_note_ahead_of_crowded(self):
        eleven = shown(chain(11))
        for text in (eleven + " ", " " + eleven, eleven + " 5", eleven + " |", eleven.replace("20", "020"),
                     eleven.replace("0 | 0", "00 | 0"), eleven.replace("21 21", "21"), eleven + " | 1 2 3 x"):
            with self.subTest(text):
                with self.assertRaises(NoNote):
                    read(text)

    def test_no_note_ahead_of_no_sheet(self):
        for text in ("0 | 0 1 1 2 ", "0 | 0 1 2 03", "0 | 0 1 2 3 | 4 5 6"):
            with self.subTest(text):
                with self.assertRaises(NoNote):
                    read(text)

    def test_crowded_ahead_of_no_sheet(self):
        for text in (shown(chain(10)) + " | 90 91 92 93", shown(chain(10)) + " | 0 0 1 1"):
            with self.subTest(text):
                with self.assertRaises(Crowded):
                    read(text)


if __name__ == "__main__":
    unittest.main()
