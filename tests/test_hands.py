import copy
import itertools
import unittest

from heedwise.errors import NoRule, NoTurn
from heedwise.hands import Hand

GREATEST = 10 ** 60 - 1

ATOMS = ((), [], "", "0", "-", "ab", 0, 1, 2, 3, -1, GREATEST, -GREATEST, True, False, None)

# For three advisers on the scale from 0 to 2: what no turn has said.
NO_SAID = (
    (0, 1), (0, 1, 2, 0), (0, 1, 2, None), (), (0,),
    (-1, 1, 2), (0, 3, 2), (0, 1, 3), (0, 1, GREATEST), (0, -GREATEST, 1),
    (True, 1, 2), (0, False, 2), (None, None, True),
    (0, 1, "2"), (0, 1, ""), (0, "-", 2), (0, 1, (2,)), (0, 1, ()), (0, [1], 2), ([], 1, 2),
    [0, 1, 2], [], "012", "0 1 2", "", 0, 1, 3, -1, GREATEST, True, False, None,
    ((0, 1, 2), 1), ((0, 1, 2),),
)

# And what was so in none.
NO_SO = (-1, 3, GREATEST, -GREATEST, True, False, "1", "", (), (1,), [], [1], None)

SAIDS = tuple(itertools.product((None, 0, 1, 2), repeat=3))


def plainly_said(many, scale, said):
    if type(said) is not tuple or len(said) != many:
        return False
    return all(what is None or (type(what) is int and what in range(scale + 1)) for what in said)


def made_of(values):
    pairs = list(itertools.product(values, repeat=2))
    return list(values) + [(value,) for value in values] + pairs + [list(pair) for pair in pairs]


def number_refused(call, *handed):
    """The number of the refusal, or None where nothing is refused."""
    try:
        call(*handed)
    except NoTurn as refusal:
        if type(refusal) is not NoTurn or type(refusal.number) is not int:
            raise AssertionError("refused otherwise than told")
        return refusal.number
    return None


def plain_saying(said):
    """The words of the document for the weight 1 each."""
    awake = [what for what in said if what is not None]
    for number in sorted(awake):
        if 2 * len([what for what in awake if what <= number]) >= len(awake):
            return number
    return 0


def sayings(hand):
    return [hand.say(said) for said in SAIDS]


class MakingTest(unittest.TestCase):
    def test_fields(self):
        for many, scale in itertools.product(range(1, 25), range(1, 11)):
            hand = Hand(many, scale)
            self.assertEqual((hand.many, hand.scale), (many, scale))
            self.assertIs(type(hand.many), int)
            self.assertIs(type(hand.scale), int)

    def test_refused(self):
        for many in (0, 25, 26, -1, 100, GREATEST, -GREATEST, True, False):
            for scale in (1, 5, 10):
                self.assert_refused(many, scale)
        for scale in (0, 11, 12, -1, 100, GREATEST, -GREATEST, True, False):
            for many in (1, 2, 24):
                self.assert_refused(many, scale)
        for many, scale in itertools.product((0, 25, GREATEST, True), (0, 11, GREATEST, True)):
            self.assert_refused(many, scale)

    def assert_refused(self, many, scale):
        with self.assertRaises(NoRule) as caught:
            Hand(many, scale)
        self.assertIs(type(caught.exception), NoRule)

    def test_heeded(self):
        for many in range(1, 25):
            self.assertEqual(Hand(many, 3).heeded(), (1,) * many)
            self.assertIs(type(Hand(many, 3).heeded()), tuple)


class SayTest(unittest.TestCase):
    def test_all_awake(self):
        hand = Hand(3, 10)
        self.assertEqual(hand.say((5, 1, 3)), 3)
        self.assertEqual(hand.say((10, 10, 0)), 10)
        self.assertEqual(hand.say((0, 10, 0)), 0)

    def test_as_many_on_either_side(self):
        self.assertEqual(Hand(2, 1).say((1, 0)), 0)
        self.assertEqual(Hand(4, 10).say((9, 2, 7, 4)), 4)
        self.assertEqual(Hand(24, 1).say((1,) * 12 + (0,) * 12), 0)
        self.assertEqual(Hand(24, 1).say((1,) * 13 + (0,) * 11), 1)

    def test_sleepers(self):
        hand = Hand(4, 10)
        self.assertEqual(hand.say((None, 7, None, None)), 7)
        self.assertEqual(hand.say((None, 7, None, 3)), 3)
        self.assertEqual(hand.say((10, None, 8, 9)), 9)
        self.assertEqual(hand.say((10, None, 10, 0)), 10)

    def test_none_awake(self):
        for many in (1, 2, 24):
            told = Hand(many, 10).say((None,) * many)
            self.assertEqual(told, 0)
            self.assertIs(type(told), int)

    def test_one_adviser(self):
        for number in range(11):
            self.assertEqual(Hand(1, 10).say((number,)), number)

    def test_the_words_of_the_document(self):
        for many, scale in ((1, 3), (2, 3), (3, 2), (4, 2), (5, 1)):
            hand = Hand(many, scale)
            for said in itertools.product([None] + list(range(scale + 1)), repeat=many):
                self.assertEqual(hand.say(said), plain_saying(said))

    def test_the_order_of_the_advisers_changes_nothing(self):
        hand = Hand(5, 10)
        for said in ((3, 1, None, 9, 9), (0, 10, 5, 5, 2), (None, None, 4, 8, 6)):
            self.assertEqual(len({hand.say(turned) for turned in itertools.permutations(said)}), 1)


class HearTest(unittest.TestCase):
    def test_asking_and_hearing_change_nothing_in_it(self):
        hand = Hand(3, 2)
        first = sayings(hand)
        for said in SAIDS:
            for so in range(3):
                self.assertIsNone(hand.hear(said, so))
            self.assertEqual(hand.heeded(), (1, 1, 1))
        self.assertEqual((hand.many, hand.scale), (3, 2))
        self.assertEqual(sayings(hand), first)
        self.assertEqual(sayings(hand), sayings(Hand(3, 2)))

    def test_one_that_always_errs_is_heeded_as_ever(self):
        hand = Hand(3, 1)
        for turn in range(60):
            hand.hear((1, 1, 0), 0)
        self.assertEqual(hand.say((1, 1, 0)), 1)

    def test_anew(self):
        for many, scale in ((1, 1), (3, 2), (24, 10)):
            hand = Hand(many, scale)
            hand.hear((scale,) * many, 0)
            other = hand.anew()
            self.assertIsNot(other, hand)
            self.assertIs(type(other), Hand)
            self.assertEqual((other.many, other.scale, other.heeded()), (many, scale, (1,) * many))
            self.assertEqual(other.say((scale,) * many), scale)
            self.assertIs(type(other.anew()), Hand)


class RefusedTest(unittest.TestCase):
    def setUp(self):
        self.hand = Hand(3, 2)

    def test_asked(self):
        for said in NO_SAID:
            self.assertEqual(number_refused(self.hand.say, said), 0, said)
            self.assertEqual(self.hand.say((0, 2, 1)), 1)

    def test_heard(self):
        for said in NO_SAID:
            for so in (0, 1, 2) + NO_SO:
                self.assertEqual(number_refused(self.hand.hear, said, so), 0, (said, so))
        for said in SAIDS:
            for so in NO_SO:
                self.assertEqual(number_refused(self.hand.hear, said, so), 0, (said, so))
        self.assertEqual(sayings(self.hand), sayings(Hand(3, 2)))
        self.assertEqual(self.hand.heeded(), (1, 1, 1))

    def test_whatever_is_handed_in(self):
        hand = Hand(2, 2)
        for said in made_of(ATOMS):
            told = None if plainly_said(2, 2, said) else 0
            self.assertEqual(number_refused(hand.say, said), told, said)
            for so in ATOMS:
                good = plainly_said(2, 2, said) and type(so) is int and 0 <= so <= 2
                self.assertEqual(number_refused(hand.hear, said, so), None if good else 0, (said, so))

    def test_what_is_a_turn_for_another_hand(self):
        self.assertEqual(Hand(4, 2).say((0, 1, 2, 2)), 1)
        self.assertEqual(number_refused(self.hand.say, (0, 1, 2, 2)), 0)
        self.assertEqual(Hand(3, 3).say((3, 3, 3)), 3)
        self.assertEqual(number_refused(self.hand.say, (3, 3, 3)), 0)
        self.assertIsNone(Hand(3, 3).hear((0, 0, 0), 3))
        self.assertEqual(number_refused(self.hand.hear, (0, 0, 0), 3), 0)

    def test_what_is_handed_in_stays(self):
        handed = [[0, [1], "2"], (0, [1], 2), ["0"]]
        before = copy.deepcopy(handed)
        for said in handed:
            number_refused(self.hand.say, said)
            number_refused(self.hand.hear, said, said)
        self.assertEqual(handed, before)


if __name__ == "__main__":
    unittest.main()
