import itertools
import random
import re
import unittest

from heedwise.errors import NoRow
from heedwise.rows import read, written

LONG = "1" * 5000

# Rows for two advisers on the scale from 0 to 3, of which none is one.
NO_ROWS = (
    # an empty row, and one of blanks
    "", " ", "  ", "   ", "    ",
    # a word more or fewer
    "0 1 : 2 3", "0 1 : 2 :", "0 1 : 2 -", "0 1 :", "0 1", "0", ":", ": 2", "0 1 : : 2", "0 1 : 2 : 2",
    # an adviser more or fewer
    "0 : 2", "0 1 2 : 2", "- : 2", "- - - : 2", "0 1 - : 2",
    # a number above scale
    "4 1 : 2", "0 4 : 2", "0 1 : 4", "0 10 : 2", "0 1 : 10", "0 99 : 2", "0 1 : " + "9" * 60,
    LONG + " 1 : 2", "0 1 : " + LONG,
    # a nought ahead
    "00 1 : 2", "0 01 : 2", "0 1 : 02", "0 1 : 00", "000 1 : 2", "0 1 : " + "0" * 5000,
    # a sign ahead
    "+0 1 : 2", "0 +1 : 2", "0 1 : +2", "-0 1 : 2", "0 -1 : 2", "0 1 : -2", "0 1 : -0",
    # a blank more: ahead, behind, between
    " 0 1 : 2", "0 1 : 2 ", "0  1 : 2", "0 1  : 2", "0 1 :  2",
    # a blank fewer
    "01 : 2", "0 1: 2", "0 1 :2", "0 1:2", "01:2",
    # another word
    "a 1 : 2", "0 x : 2", "0 1 : z", "0 1 ; 2", "0 1 :: 2", "0 1 = 2", "None 1 : 2", "0 1.0 : 2", "0 1_0 : 2",
    "0 1 : 2.", "0 1e0 : 2", "0 -- : 2", "0 _ : 2", "0 * : 2", "0 True : 2", "0x1 1 : 2", "0 ~ : 2", "0 1 : !",
    # a tab
    "0\t1 : 2", "0 1\t: 2", "0 1 :\t2", "\t0 1 : 2", "0 1 : 2\t", "0 \t1 : 2", "0 1\t : 2", "\t", "0 \t : 2",
    # the colon gone, or at another place
    "0 1 2", "0 1  2", "0 1 - 2", "0 : 1 2", ": 0 1 2", "0 1 2 :", ": 1 : 2", "0 : : 2", "0 1 : :",
    # `-` for what was so
    "0 1 : -", "- - : -",
)

# A row of two advisers on the scale from 0 to 10.
SHAPE = re.compile(r"((10|[0-9]|-) ){2}: (10|[0-9])")

GOOD = "0 - : 3"
GOOD_TURN = ((0, None), 3)


def number_refused(many, scale, text):
    """The number of the refusal, or None where nothing is refused."""
    try:
        read(many, scale, text)
    except NoRow as refusal:
        if type(refusal) is not NoRow or type(refusal.number) is not int:
            raise AssertionError("refused otherwise than told")
        return refusal.number
    return None


def drawn_turns(source, many, scale, count):
    whats = [None] + list(range(scale + 1))
    return tuple((tuple(source.choices(whats, k=many)), source.randint(0, scale)) for turn in range(count))


class WrittenTest(unittest.TestCase):
    def test_one_turn(self):
        self.assertEqual(written((((0, 1), 1),)), "0 1 : 1")
        self.assertEqual(written((((0,), 0),)), "0 : 0")
        self.assertEqual(written((((10, 0, 7), 10),)), "10 0 7 : 10")

    def test_sleepers(self):
        self.assertEqual(written((((None, 1, None), 0),)), "- 1 - : 0")
        self.assertEqual(written((((None,), 1),)), "- : 1")
        self.assertEqual(written((((None, None), 10),)), "- - : 10")

    def test_several_turns(self):
        turns = (((0, None), 1), ((1, 1), 0), ((None, None), 1))
        self.assertEqual(written(turns), "0 - : 1\n1 1 : 0\n- - : 1")

    def test_24_advisers(self):
        turn = (tuple(range(11)) + (None,) * 13, 10)
        self.assertEqual(written((turn,)), "0 1 2 3 4 5 6 7 8 9 10" + " -" * 13 + " : 10")

    def test_no_turns(self):
        self.assertEqual(written(()), "")

    def test_its_kind(self):
        for turns in ((), (((0,), 1),), (((0,), 1), ((None,), 0))):
            self.assertIs(type(written(turns)), str)


class ReadTest(unittest.TestCase):
    def assert_read(self, many, scale, text, wanted):
        told = read(many, scale, text)
        self.assertEqual(told, wanted)
        self.assertIs(type(told), tuple)
        for turn in told:
            self.assertIs(type(turn), tuple)
            self.assertEqual(len(turn), 2)
            self.assertIs(type(turn[0]), tuple)
            self.assertIs(type(turn[1]), int)
            for what in turn[0]:
                self.assertIn(type(what), (int, type(None)))

    def test_one_row(self):
        self.assert_read(2, 1, "0 1 : 1", (((0, 1), 1),))
        self.assert_read(1, 1, "0 : 0", (((0,), 0),))
        self.assert_read(3, 10, "10 0 7 : 10", (((10, 0, 7), 10),))

    def test_sleepers(self):
        self.assert_read(3, 1, "- 1 - : 0", (((None, 1, None), 0),))
        self.assert_read(1, 1, "- : 1", (((None,), 1),))

    def test_several_rows(self):
        self.assert_read(2, 1, "0 - : 1\n1 1 : 0\n- - : 1", (((0, None), 1), ((1, 1), 0), ((None, None), 1)))

    def test_24_advisers(self):
        self.assert_read(24, 10, "10 " + "- " * 22 + "3 : 9", (((10,) + (None,) * 22 + (3,), 9),))

    def test_the_text_without_signs(self):
        for many, scale in itertools.product((1, 2, 24), (1, 10)):
            self.assert_read(many, scale, "", ())

    def test_what_is_written_is_read_as_the_same_turns(self):
        source = random.Random(9)
        for many, scale in itertools.product((1, 2, 5, 24), (1, 2, 9, 10)):
            for count in (0, 1, 2, 60):
                turns = drawn_turns(source, many, scale, count)
                self.assert_read(many, scale, written(turns), turns)

    def test_each_number_of_a_scale(self):
        for scale in range(1, 11):
            for number in range(15):
                text = f"{number} : 0\n0 : {number}"
                if number <= scale:
                    self.assert_read(1, scale, text, (((number,), 0), ((0,), number)))
                else:
                    self.assertEqual(number_refused(1, scale, text), 0)
                    self.assertEqual(number_refused(1, scale, f"0 : 0\n0 : {number}"), 1)


class RefusedTest(unittest.TestCase):
    def test_what_is_no_row(self):
        for bad in NO_ROWS:
            # The text without signs is no row, but no turns.
            if bad != "":
                self.assertEqual(number_refused(2, 3, bad), 0, bad)

    def test_the_number_is_that_of_the_row(self):
        for bad in NO_ROWS:
            for ahead, behind in ((0, 1), (1, 0), (1, 1), (2, 3), (59, 0)):
                text = "\n".join([GOOD] * ahead + [bad] + [GOOD] * behind)
                self.assertEqual(number_refused(2, 3, text), ahead, text)

    def test_the_first_of_several(self):
        for first, second in itertools.product(NO_ROWS, repeat=2):
            text = "\n".join([GOOD, first, GOOD, second])
            self.assertEqual(number_refused(2, 3, text), 1, text)

    def test_line_ends(self):
        self.assertEqual(number_refused(2, 3, GOOD + "\n"), 1)
        self.assertEqual(number_refused(2, 3, GOOD + "\n" + GOOD + "\n"), 2)
        self.assertEqual(number_refused(2, 3, GOOD + "\n\n" + GOOD), 1)
        self.assertEqual(number_refused(2, 3, "\n" + GOOD), 0)
        self.assertEqual(number_refused(2, 3, "\n"), 0)
        self.assertEqual(number_refused(2, 3, "\n\n"), 0)
        # A row that is parted within is two rows, neither of them one.
        self.assertEqual(number_refused(2, 3, "0 -\n: 3"), 0)

    def test_a_row_for_more_or_fewer_advisers(self):
        for many, other in itertools.permutations((1, 2, 3, 23, 24), 2):
            row = " ".join(["1"] * many) + " : 1"
            away = " ".join(["1"] * other) + " : 1"
            self.assertIsNone(number_refused(many, 1, row))
            self.assertEqual(number_refused(many, 1, away), 0)
            self.assertEqual(number_refused(many, 1, row + "\n" + away), 1)

    def test_one_sign_more_fewer_or_other_at_each_place(self):
        rows = "10 - : 3\n2 10 : 10"
        signs = [chr(code) for code in range(32, 127)] + ["\t", "\n"]
        self.assertIsNone(number_refused(2, 10, rows))
        for place in range(len(rows) + 1):
            ahead, behind = rows[:place], rows[place:]
            self.assert_as_shaped(ahead + behind[1:])
            for sign in signs:
                self.assert_as_shaped(ahead + sign + behind)
                self.assert_as_shaped(ahead + sign + behind[1:])

    def assert_as_shaped(self, text):
        bad = [number for number, row in enumerate(text.split("\n")) if not SHAPE.fullmatch(row)]
        self.assertEqual(number_refused(2, 10, text), bad[0] if bad else None, text)
        if not bad:
            self.assertEqual(written(read(2, 10, text)), text)

    def test_refused_or_not_the_next_is_read_as_ever(self):
        for bad in NO_ROWS:
            number_refused(2, 3, GOOD + "\n" + bad)
            self.assertEqual(read(2, 3, GOOD), (GOOD_TURN,))


class WordsTest(unittest.TestCase):
    def test_the_texts_of_few_signs_that_are_read(self):
        """Every text of up to six of these signs: read just where a row of the document is it."""
        rows = {}
        for so in ("0", "1"):
            for what in ("0", "1", "-"):
                rows[f"{what} : {so}"] = ((None if what == "-" else int(what),), int(so))
        for length in range(1, 7):
            for signs in itertools.product("01- :\n", repeat=length):
                text = "".join(signs)
                if text in rows:
                    self.assertEqual(read(1, 1, text), (rows[text],))
                else:
                    parts = text.split("\n")
                    first = [number for number, part in enumerate(parts) if part not in rows][0]
                    self.assertEqual(number_refused(1, 1, text), first, text)


if __name__ == "__main__":
    unittest.main()
