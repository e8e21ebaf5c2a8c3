import itertools
import random
import unittest

from samples import drawn_turns

from heedwise.best import best_row, row_table
from heedwise.turns import charges

# Of two advisers on the scale from 0 to 3: the charges are (1, 2), (3, 0), (0, 2), (0, 3).
TURNS = (((0, 3), 1), ((3, None), 0), ((2, 0), 2), ((None, 3), 0))
TABLE = (
    ((1, 2), (1, 2), (1, 2)),
    ((4, 2), (4, 1), (4, 1)),
    ((4, 4), (2, 3), (1, 3)),
    ((4, 7), (2, 6), (1, 5)),
)

# many, scale, how many turns: few enough that all rows of advisers can be gone through.
SMALL = (
    (1, 1, 1), (1, 10, 5), (2, 1, 7), (2, 10, 7), (3, 1, 5), (3, 2, 5), (4, 3, 4), (5, 10, 3), (24, 1, 2), (24, 10, 1),
)


def charge_of(turn, adviser):
    said, so = turn
    return 0 if said[adviser] is None else abs(said[adviser] - so)


def charge_of_row(turns, row):
    return sum(charge_of(turn, adviser) for turn, adviser in zip(turns, row))


def changes_of(row):
    return len([place for place in range(1, len(row)) if row[place] != row[place - 1]])


def all_rows(many, turns):
    """Each row with how often it changes and its sum of charges."""
    rows = itertools.product(range(many), repeat=len(turns))
    return [(row, changes_of(row), charge_of_row(turns, row)) for row in rows]


def table_by_runs(many, turns, changes):
    """The table for many turns, by where the last run of the row's last adviser began."""
    table = []
    for number in range(len(turns)):
        lines = []
        for left in range(changes + 1):
            lines.append([least_by_runs(table, turns, number, left, adviser) for adviser in range(many)])
        table.append(lines)
    return tuple(tuple(tuple(line) for line in lines) for lines in table)


def least_by_runs(table, turns, number, left, adviser):
    run = 0
    sums = []
    for begun in range(number, -1, -1):
        run = run + charge_of(turns[begun], adviser)
        if begun == 0:
            sums.append(run)
        elif left > 0:
            sums.append(run + min(table[begun - 1][left - 1]))
    return min(sums)


class BestTest(unittest.TestCase):
    def assert_kinds_of_table(self, many, turns, changes, table):
        self.assertIs(type(table), tuple)
        self.assertEqual(len(table), len(turns))
        for lines in table:
            self.assertIs(type(lines), tuple)
            self.assertEqual([(type(line), len(line)) for line in lines], [(tuple, many)] * (changes + 1))
            for line in lines:
                self.assertEqual([type(one) for one in line], [int] * many)

    def assert_row(self, many, turns, changes, told):
        """A row as asked for, with its own sum."""
        self.assertIs(type(told), tuple)
        row, whole = told
        self.assertEqual((type(row), type(whole)), (tuple, int))
        self.assertEqual(len(row), len(turns))
        for adviser in row:
            self.assertIs(type(adviser), int)
            self.assertIn(adviser, range(many))
        self.assertLessEqual(changes_of(row), changes)
        self.assertEqual(charge_of_row(turns, row), whole)


class ByHandTest(BestTest):
    def test_the_table(self):
        self.assertEqual(row_table(2, TURNS, 2), TABLE)
        self.assertEqual(row_table(2, TURNS, 0), tuple(lines[:1] for lines in TABLE))
        self.assertEqual(row_table(2, TURNS, 1), tuple(lines[:2] for lines in TABLE))
        for count in range(5):
            self.assertEqual(row_table(2, TURNS[:count], 2), TABLE[:count])

    def test_the_row(self):
        # There is but one best row for each of these.
        self.assertEqual(best_row(2, TURNS, 0), ((0, 0, 0, 0), 4))
        self.assertEqual(best_row(2, TURNS, 1), ((1, 1, 0, 0), 2))
        self.assertEqual(best_row(2, TURNS, 2), ((0, 1, 0, 0), 1))
        self.assertEqual(best_row(2, TURNS, 3), ((0, 1, 0, 0), 1))

    def test_a_sleeper_is_charged_nothing(self):
        turns = (((None, 1, 1), 0), ((1, None, 1), 0), ((1, 1, None), 0))
        self.assertEqual(best_row(3, turns, 2), ((0, 1, 2), 0))
        self.assertEqual(best_row(3, turns, 0)[1], 2)
        self.assertEqual(row_table(3, turns, 1)[2], ((2, 2, 2), (2, 1, 1)))
        self.assertEqual(best_row(2, (((None, None), 7),) * 60, 10)[1], 0)

    def test_one_adviser(self):
        turns = (((3,), 10), ((None,), 4), ((10,), 1))
        for changes in (0, 1, 10):
            self.assertEqual(row_table(1, turns, changes), tuple((((whole,),) * (changes + 1)) for whole in (7, 7, 16)))
            self.assertEqual(best_row(1, turns, changes), ((0, 0, 0), 16))

    def test_one_turn(self):
        turns = (((4, 0, None, 9), 8),)
        for changes in (0, 1, 10):
            self.assertEqual(row_table(4, turns, changes), (((4, 8, 0, 1),) * (changes + 1),))
            self.assertEqual(best_row(4, turns, changes), ((2,), 0))

    def test_no_turns(self):
        for many, changes in itertools.product((1, 2, 24), (0, 1, 10)):
            self.assertEqual(row_table(many, (), changes), ())
            self.assertEqual(best_row(many, (), changes), ((), 0))
            self.assert_row(many, (), changes, best_row(many, (), changes))

    def test_no_change_is_the_least_charge_of_one(self):
        source = random.Random(40)
        for many, scale in itertools.product((1, 2, 9, 24), (1, 10)):
            turns = drawn_turns(source, many, scale)
            self.assertEqual(row_table(many, turns, 0)[-1], (charges(many, turns),))
            self.assertEqual(best_row(many, turns, 0)[1], min(charges(many, turns)))

    def test_each_change_is_needed(self):
        # In each turn another one is right, each but once: so many changes, so many right, and one more.
        for many in (11, 12, 24):
            turns = tuple((tuple(int(adviser == number) for adviser in range(many)), 1) for number in range(many))
            for changes in range(11):
                told = best_row(many, turns, changes)
                self.assert_row(many, turns, changes, told)
                self.assertEqual(told[1], many - changes - 1)


class AllRowsTest(BestTest):
    def test_no_row_is_better(self):
        source = random.Random(41)
        for many, scale, count in SMALL:
            for again in range(4):
                turns = drawn_turns(source, many, scale, count, sleep=again % 2 == 0)
                rows = all_rows(many, turns)
                for changes in (0, 1, 2, count - 1, count, 10):
                    self.assert_best(many, turns, changes, rows)

    def assert_best(self, many, turns, changes, rows):
        told = best_row(many, turns, changes)
        self.assert_row(many, turns, changes, told)
        self.assertEqual(told[1], min(whole for row, changed, whole in rows if changed <= changes))

    def test_the_table(self):
        source = random.Random(42)
        for many, scale, count in SMALL:
            turns = drawn_turns(source, many, scale, count)
            table = row_table(many, turns, 10)
            self.assert_kinds_of_table(many, turns, 10, table)
            for number in range(count):
                self.assert_lines(many, turns[:number + 1], table[number])

    def assert_lines(self, many, turns, lines):
        rows = all_rows(many, turns)
        for changes, adviser in itertools.product(range(11), range(many)):
            sums = [whole for row, changed, whole in rows if changed <= changes and row[-1] == adviser]
            self.assertEqual(lines[changes][adviser], min(sums))


class GreatTest(BestTest):
    def test_many_advisers_and_turns(self):
        source = random.Random(43)
        for many, scale, count in ((24, 10, 60), (24, 1, 60), (2, 10, 60), (7, 3, 30), (1, 10, 60)):
            turns = drawn_turns(source, many, scale, count)
            table = row_table(many, turns, 10)
            self.assert_kinds_of_table(many, turns, 10, table)
            self.assertEqual(table, table_by_runs(many, turns, 10))
            for changes in range(11):
                self.assertEqual(row_table(many, turns, changes), tuple(lines[:changes + 1] for lines in table))
                told = best_row(many, turns, changes)
                self.assert_row(many, turns, changes, told)
                self.assertEqual(told[1], min(table[-1][changes]))

    def test_more_changes_than_turns(self):
        source = random.Random(44)
        for many, scale in ((2, 1), (24, 10)):
            for count in (1, 2, 5):
                turns = drawn_turns(source, many, scale, count)
                free = sum(min(charge_of(turn, adviser) for adviser in range(many)) for turn in turns)
                for changes in range(count - 1, 11):
                    self.assertEqual(best_row(many, turns, changes)[1], free)
                    self.assert_row(many, turns, changes, best_row(many, turns, changes))

    def test_asked_again_it_tells_the_same(self):
        turns = drawn_turns(random.Random(45), 5, 4)
        for changes in (0, 3, 10):
            self.assertEqual(row_table(5, turns, changes), row_table(5, turns, changes))
            self.assertEqual(best_row(5, turns, changes), best_row(5, turns, changes))


if __name__ == "__main__":
    unittest.main()
