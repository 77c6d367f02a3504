"""Promise 10: pairings written and read."""

import itertools
import re
import unittest

import helper
from pairlings import errors
from pairlings.notes import read, shown
from pairlings.pairings import looked

# Each sign that a text may have.
SIGNS = "\t\n" + "".join(chr(number) for number in range(ord(" "), ord("~") + 1)).replace("%", "")
NOTE = re.compile(r"(0|[1-9][0-9]?):((?: (?:0|[1-9][0-9]?)-(?:0|[1-9][0-9]?))*)")


def plain_read(text):
    """The pairing that a text writes, or None."""
    match = NOTE.fullmatch(text)
    if not match:
        return None
    pairs = re.findall("([0-9]+)-([0-9]+)", match[2])
    pairing = (int(match[1]), tuple((int(first), int(last)) for first, last in pairs))
    try:
        looked(pairing)
    except errors.NoPairing:
        return None
    return pairing


class ShownTest(unittest.TestCase):
    def test_ordinary(self):
        self.assertEqual(shown((5, ((0, 3), (2, 4)))), "5: 0-3 2-4")
        self.assertEqual(shown((12, ((0, 11), (9, 10)))), "12: 0-11 9-10")
        self.assertEqual(shown((2, ((0, 1),))), "2: 0-1")

    def test_edges(self):
        self.assertEqual(shown((0, ())), "0:")
        for points in range(61):
            self.assertEqual(shown((points, ())), str(points) + ":")
        self.assertEqual(shown((60, ((58, 59),))), "60: 58-59")
        self.assertEqual(shown(helper.ALL_CROSS)[:20], "60: 0-30 1-31 2-32 3")

    def test_against_a_plain_note(self):
        for pairing in helper.few_points() + helper.many_points():
            self.assertEqual(shown(pairing), helper.plain_note(pairing))

    def test_kind_of_answer(self):
        self.assertIs(type(shown((0, ()))), str)


class ReadTest(unittest.TestCase):
    def refused(self, *texts):
        for text in texts:
            with self.subTest(text[:60]):
                with self.assertRaises(errors.PairError) as caught:
                    read(text)
                self.assertIsInstance(caught.exception, errors.BadNote)
                self.assertIsInstance(caught.exception, ValueError)
                others = (errors.NoPairing, errors.NoWalk, errors.NoNumber, errors.TooMany)
                self.assertNotIsInstance(caught.exception, others)

    def test_ordinary(self):
        self.assertEqual(read("5: 0-3 2-4"), (5, ((0, 3), (2, 4))))
        self.assertEqual(read("12: 0-11 9-10"), (12, ((0, 11), (9, 10))))

    def test_edges(self):
        self.assertEqual(read("0:"), (0, ()))
        for points in range(61):
            self.assertEqual(read(str(points) + ":"), (points, ()))
        self.assertEqual(read("60: 0-59"), (60, ((0, 59),)))

    def test_one_of_another(self):
        for pairing in helper.few_points() + helper.many_points():
            self.assertEqual(read(shown(pairing)), pairing)
            self.assertEqual(read(helper.plain_note(pairing)), pairing)

    def test_kinds(self):
        pairing = read("5: 0-3 2-4")
        self.assertIs(type(pairing), tuple)
        self.assertIs(type(pairing[0]), int)
        self.assertIs(type(pairing[1]), tuple)
        self.assertEqual([type(pair) for pair in pairing[1]], [tuple, tuple])
        self.assertEqual({type(point) for pair in pairing[1] for point in pair}, {int})

    def test_each_text_of_few_signs(self):
        good = {helper.plain_note((points, ())): (points, ()) for points in range(61)}
        for points in range(10):
            for pair in itertools.combinations(range(points), 2):
                good[helper.plain_note((points, (pair,)))] = (points, (pair,))
        found = 0
        for length in range(7):
            for signs in itertools.product("0123:- ", repeat=length):
                text = "".join(signs)
                if text in good:
                    found += 1
                    self.assertEqual(read(text), good[text])
                else:
                    self.assertRaises(errors.BadNote, read, text)
        # 0 to 3 points and 10 to 33 written by these figures, and the pairs of two and of three points.
        self.assertEqual(found, 4 + 12 + 1 + 3)

    def test_each_text_one_sign_away(self):
        found = 0
        for note in ("0:", "5: 0-3 2-4", "12: 0-11 9-10", "60: 5-59 10-20"):
            for place in range(len(note) + 1):
                for sign in SIGNS:
                    for text in (note[:place] + sign + note[place:], note[:place] + sign + note[place + 1:],
                                 note[:place] + note[place + 1:]):
                        pairing = plain_read(text)
                        if pairing is None:
                            self.assertRaises(errors.BadNote, read, text)
                        else:
                            found += 1
                            self.assertEqual(read(text), pairing)
        self.assertGreater(found, 50)

    def test_empty_text(self):
        self.refused("", " ", "  ", "\n", "\t", ":", " :", ": ", "-", ": 0-1")

    def test_colon_missing_or_twice(self):
        self.refused("5", "5 0-3 2-4", "50-3", "5:: 0-3", "5: : 0-3", "5: 0-3:", "5: 0-3: 2-4", "5:0:", ":5:",
                     "5; 0-3", "5: 0-3 5: 2-4", "5::", "0", "2 0-1")

    def test_needless_nought(self):
        self.refused("05:", "00:", "005:", "05: 0-3", "5: 00-3", "5: 0-03", "5: 00-03", "5: 0-3 02-4", "5: 0-3 2-04",
                     "060:", "5: 000-3")

    def test_blank_too_many_or_too_few(self):
        self.refused(" 5: 0-3 2-4", "5: 0-3 2-4 ", "5:  0-3 2-4", "5: 0-3  2-4", "5 : 0-3 2-4", "5: 0 -3", "5: 0- 3",
                     "5: 0 - 3", "5:0-3 2-4", "5:0-3", "5: 0-32-4", "5: ", " 5:", "5 :", "0: ", " 0:", "1 2: 0-1",
                     "12: 0-1 1", "5:  ")

    def test_tab_or_line_end_anywhere(self):
        for note in ("0:", "5:", "5: 0-3 2-4", "60: 10-59"):
            for sign in "\t\n":
                for place in range(len(note) + 1):
                    self.refused(note[:place] + sign + note[place:])
                    self.refused(note[:place] + sign + note[place + 1:])
                self.refused(note.replace(":", ":" + sign), note + sign + note, note + sign * 3)

    def test_sign_ahead_of_a_number(self):
        self.refused("+5:", "-5:", "-0:", "+0:", "5: +0-3", "5: -0-3", "5: 0-+3", "5: 0--3", "5: +0-+3", "5: 0-3 +2-4",
                     "5: 0-3 2--4", "-1:", "- 5:")

    def test_hyphen_missing_or_twice(self):
        self.refused("5: 03", "5: 0 3", "5: 0", "5: 0-", "5: -3", "5: -", "5: 0--3", "5: 0-3-", "5: -0-3", "5: 0-3-4",
                     "5: 0-3 2", "5: 0-3 24", "5: 0-1-2 3-4", "5: --", "5: 0_3", "5: 0,3")

    def test_words_that_are_no_numbers(self):
        self.refused("five:", "a: 0-1", "5: a-b", "5: 0-b", "5: a-3", "5: 0-3 x", "5x: 0-3", "5: 0-3x", "5: 0x0-3",
                     "1_0:", "12: 1_0-11", "5.0:", "5: 0.0-3", "1e1:", "5: 0-3 and 2-4", "lone", "open", "None:",
                     "5: (0, 3)", "(5, ((0, 3),))", "5: 0-3, 2-4", "5: 0-3;", "\"5:\"", "5: 0-3 # 2-4")

    def test_pairs_not_sorted(self):
        self.refused("5: 2-4 0-3", "6: 0-1 4-5 2-3", "6: 1-2 0-5", "12: 10-11 9-1", "12: 10-11 2-3")

    def test_greater_point_first(self):
        self.refused("5: 3-0", "5: 0-3 4-2", "5: 1-0 2-3", "60: 59-0")

    def test_point_twice(self):
        self.refused("5: 0-0", "5: 0-3 3-4", "5: 0-3 0-4", "5: 0-3 1-3", "5: 0-3 0-3", "5: 4-4")

    def test_point_beyond(self):
        self.refused("5: 0-5", "5: 0-6", "5: 5-6", "0: 0-1", "1: 0-1", "2: 0-2", "60: 0-60", "60: 0-61", "60: 0-99",
                     "60: 0-100", "5: 0-3 2-5", "0: 0-0")

    def test_more_than_sixty_points(self):
        self.refused("61:", "61: 0-1", "61: 0-60", "62:", "99:", "100:", "600:", "1000000:")
        self.refused(helper.plain_note((62, tuple((k, 61 - k) for k in range(31)))))

    def test_very_long_number(self):
        for figures in (3, 20, 390, 5000):
            for figure in "0159":
                number = figure * figures
                self.refused(number + ":", number + ": 0-1", "5: 0-" + number, "5: " + number + "-3",
                             "5: 0-3 " + number, number)

    def test_long_texts(self):
        self.refused("5: 0-3" + " " * 394, "5:" + " 0-3" * 99, ":" * 400, "-" * 400, "a" * 400, "5: " * 133,
                     "\n" * 400, helper.plain_note(helper.ALL_NEST) * 2)


if __name__ == "__main__":
    unittest.main()
