import copy
import itertools
import unittest

from heedwise.errors import NoTurn
from heedwise.turns import charge, charges, check_turn, check_turns, erred, own_errors

GREATEST = 10 ** 60 - 1

ATOMS = ((), [], "", "0", "-", "ab", 0, 1, 2, 3, -1, GREATEST, -GREATEST, True, False, None)

GOOD = ((0, None, 2), 1)

NO_TURNS = (
    # one adviser more or fewer
    ((0, 1), 1),
    ((0, 1, 2, 0), 1),
    ((0, 1, 2, None), 1),
    ((), 1),
    # below 0, above scale
    ((-1, 1, 2), 1),
    ((0, 3, 2), 1),
    ((0, 1, GREATEST), 1),
    ((0, 1, -GREATEST), 1),
    ((0, 1, 2), -1),
    ((0, 1, 2), 3),
    ((0, 1, 2), GREATEST),
    # another kind in the place of what one says
    ((True, 1, 2), 1),
    ((0, False, 2), 1),
    ((0, 1, "2"), 1),
    ((0, 1, ""), 1),
    ((0, 1, (2,)), 1),
    ((0, 1, ()), 1),
    ((0, [1], 2), 1),
    (([], 1, 2), 1),
    ((None, None, True), 1),
    # another kind in the place of what was so
    ((0, 1, 2), True),
    ((0, 1, 2), False),
    ((0, 1, 2), "1"),
    ((0, 1, 2), ""),
    ((0, 1, 2), (1,)),
    ((0, 1, 2), ()),
    ((0, 1, 2), [1]),
    ((0, 1, 2), []),
    ((0, 1, 2), None),
    ((None, None, None), None),
    # another kind in the place of all that is said
    ([0, 1, 2], 1),
    ("012", 1),
    (3, 1),
    (0, 1),
    (True, 1),
    (None, 1),
)

NO_PAIRS = (
    (), (GOOD,), ((0, 1, 2),), ((0, 1, 2), 1, 1), ((0, 1, 2), 1, None), [(0, 1, 2), 1], [], "", "01", "ab",
    0, 1, 2, -1, GREATEST, True, False, None, (1, (0, 1, 2)), (0, 1, 2, 1),
)


def plainly_on_scale(scale, value):
    return type(value) is int and value in range(scale + 1)


def plainly_a_turn(many, scale, turn):
    if type(turn) is not tuple or len(turn) != 2:
        return False
    said, so = turn
    if type(said) is not tuple or len(said) != many:
        return False
    awake = [what for what in said if what is not None]
    return all(plainly_on_scale(scale, what) for what in awake + [so])


def refusal_of(call, *handed):
    """The number of the refusal, or None where nothing is refused."""
    try:
        answer = call(*handed)
    except NoTurn as refusal:
        if type(refusal) is not NoTurn or type(refusal.number) is not int:
            raise AssertionError("refused otherwise than told")
        return refusal.number
    if answer is not None:
        raise AssertionError("something is given back")
    return None


class CheckTurnTest(unittest.TestCase):
    def test_good_turns(self):
        self.assertIsNone(check_turn(1, 1, (0,), 0))
        self.assertIsNone(check_turn(1, 1, (1,), 1))
        self.assertIsNone(check_turn(3, 2, (0, 1, 2), 2))
        self.assertIsNone(check_turn(2, 10, (10, 0), 10))
        self.assertIsNone(check_turn(24, 10, tuple(range(11)) + (None,) * 13, 0))

    def test_sleepers(self):
        self.assertIsNone(check_turn(3, 2, (None, 2, None), 0))
        self.assertIsNone(check_turn(3, 2, (None, None, None), 1))

    def test_what_is_no_turn(self):
        for said, so in NO_TURNS:
            self.assertEqual(refusal_of(check_turn, 3, 2, said, so), 0, (said, so))

    def test_whatever_is_handed_in(self):
        for said in self.made_of(ATOMS):
            for so in ATOMS:
                told = None if plainly_a_turn(2, 2, (said, so)) else 0
                self.assertEqual(refusal_of(check_turn, 2, 2, said, so), told, (said, so))

    def made_of(self, values):
        pairs = list(itertools.product(values, repeat=2))
        return list(values) + [(value,) for value in values] + pairs + [list(pair) for pair in pairs]

    def test_many_within_one_another(self):
        deep = ()
        for level in range(5000):
            deep = (deep,)
        self.assertEqual(refusal_of(check_turn, 1, 1, deep, 0), 0)
        self.assertEqual(refusal_of(check_turn, 1, 1, (0,), deep), 0)
        self.assertEqual(refusal_of(check_turns, 1, 1, (((0,), 1), deep)), 1)


class CheckTurnsTest(unittest.TestCase):
    def test_good_turns(self):
        self.assertIsNone(check_turns(3, 2, (GOOD,)))
        self.assertIsNone(check_turns(3, 2, (GOOD, ((None, None, None), 0), ((2, 2, 2), 2))))
        self.assertIsNone(check_turns(3, 2, (GOOD,) * 60))

    def test_no_turns(self):
        self.assertIsNone(check_turns(1, 1, ()))
        self.assertIsNone(check_turns(24, 10, ()))

    def test_what_is_no_turn(self):
        for bad in NO_TURNS + NO_PAIRS:
            self.assertEqual(refusal_of(check_turns, 3, 2, (bad,)), 0, bad)

    def test_the_number_is_that_of_the_turn(self):
        for bad in NO_TURNS + NO_PAIRS:
            for ahead in (1, 2, 59):
                for behind in (0, 3):
                    turns = (GOOD,) * ahead + (bad,) + (GOOD,) * behind
                    self.assertEqual(refusal_of(check_turns, 3, 2, turns), ahead, bad)

    def test_the_first_of_several(self):
        bads = NO_TURNS + NO_PAIRS
        for first, second in itertools.product(bads, repeat=2):
            turns = (GOOD, first, GOOD, second)
            self.assertEqual(refusal_of(check_turns, 3, 2, turns), 1, turns)

    def test_what_is_no_tuple(self):
        for turns in ([], [GOOD], "", "0 1 2 : 1", 0, 1, -1, GREATEST, True, False, None):
            self.assertEqual(refusal_of(check_turns, 3, 2, turns), 0, turns)

    def test_a_turn_is_no_tuple_of_turns(self):
        self.assertEqual(refusal_of(check_turns, 3, 2, GOOD), 0)

    def test_other_advisers_in_a_later_turn(self):
        self.assertEqual(refusal_of(check_turns, 2, 1, (((0, 1), 1), ((0,), 1))), 1)
        self.assertEqual(refusal_of(check_turns, 2, 1, (((0, 1), 1), ((0, 1, 1), 1))), 1)

    def test_refused_or_not_it_changes_nothing(self):
        handed = (GOOD, ([0, [1], "2"], [None]), [GOOD])
        before = copy.deepcopy(handed)
        for again in range(3):
            self.assertEqual(refusal_of(check_turns, 3, 2, handed), 1)
            self.assertEqual(refusal_of(check_turn, 3, 2, handed[1][0], handed[1][1]), 0)
            self.assertIsNone(check_turns(3, 2, (GOOD,)))
        self.assertEqual(handed, before)


class ChargeTest(unittest.TestCase):
    def test_above_and_below(self):
        self.assertEqual(charge(7, 3), 4)
        self.assertEqual(charge(3, 7), 4)
        self.assertEqual(charge(0, 10), 10)
        self.assertEqual(charge(10, 0), 10)

    def test_just_so(self):
        self.assertEqual(charge(0, 0), 0)
        self.assertEqual(charge(10, 10), 0)

    def test_asleep(self):
        for so in range(11):
            self.assertEqual(charge(None, so), 0)

    def test_its_kind(self):
        for what in (None, 0, 1, 2):
            self.assertIs(type(charge(what, 1)), int)


TURNS = (
    ((0, 3, None, None), 1),
    ((2, 2, 0, None), 2),
    ((3, None, 3, None), 0),
    ((None, 0, 0, None), 0),
)


class SumsTest(unittest.TestCase):
    def assert_told(self, told, wanted):
        self.assertEqual(told, wanted)
        self.assertIs(type(told), tuple)
        for one in told:
            self.assertIs(type(one), int)

    def test_charges(self):
        self.assert_told(charges(4, TURNS), (4, 2, 5, 0))
        self.assert_told(charges(1, (((4,), 10), ((10,), 4))), (12,))

    def test_erred(self):
        self.assert_told(erred(4, TURNS), (2, 1, 2, 0))
        self.assert_told(erred(1, (((4,), 10), ((10,), 4), ((5,), 5))), (2,))

    def test_own_errors(self):
        self.assert_told(own_errors(4, TURNS, (1, 2, 0, 0)), (0, 0, 0, 0))
        self.assert_told(own_errors(4, TURNS, (0, 0, 3, 3)), (3, 3, 3, 0))
        self.assert_told(own_errors(4, TURNS, (3, 2, 0, 0)), (1, 1, 0, 0))
        self.assert_told(own_errors(4, TURNS, (1, 2, 1, 0)), (1, 0, 1, 0))
        self.assert_told(own_errors(4, TURNS, (1, 2, 0, 3)), (0, 1, 1, 0))

    def test_no_turns(self):
        for many in (1, 2, 24):
            self.assert_told(charges(many, ()), (0,) * many)
            self.assert_told(erred(many, ()), (0,) * many)
            self.assert_told(own_errors(many, (), ()), (0,) * many)

    def test_never_awake(self):
        turns = (((None, 1), 0), ((None, None), 1), ((None, 0), 0))
        self.assert_told(charges(2, turns), (0, 1))
        self.assert_told(erred(2, turns), (0, 1))
        self.assert_told(own_errors(2, turns, (1, 0, 1)), (0, 2))

    def test_a_sleeper_whose_number_would_be_right_or_wrong(self):
        # Asleep is not the same as saying 0, whatever was so.
        for so in (0, 1):
            turns = (((None,), so),)
            self.assert_told(charges(1, turns), (0,))
            self.assert_told(erred(1, turns), (0,))
            self.assert_told(own_errors(1, turns, (1 - so,)), (0,))

    def test_sixty_turns_of_24_advisers(self):
        turns = tuple((tuple((place + turn) % 11 for place in range(24)), turn % 11) for turn in range(60))
        sums = [0] * 24
        errors = [0] * 24
        for said, so in turns:
            for place in range(24):
                sums[place] += max(said[place] - so, so - said[place])
                errors[place] += said[place] != so
        self.assert_told(charges(24, turns), tuple(sums))
        self.assert_told(erred(24, turns), tuple(errors))
        self.assert_told(own_errors(24, turns, (0,) * 60), (54,) * 24)

    def test_what_is_handed_in_stays(self):
        sayings = (0, 0, 3, 3)
        before = copy.deepcopy(TURNS)
        first = (charges(4, TURNS), erred(4, TURNS), own_errors(4, TURNS, sayings))
        again = (charges(4, TURNS), erred(4, TURNS), own_errors(4, TURNS, sayings))
        self.assertEqual(first, again)
        self.assertEqual(TURNS, before)
        self.assertEqual(sayings, (0, 0, 3, 3))


if __name__ == "__main__":
    unittest.main()
