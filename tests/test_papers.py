import itertools
import random
import unittest

from samples import GREATEST, plain_paper

from heedwise.errors import NoTurn
from heedwise.hands import Hand
from heedwise.papers import most_errors, paper, ran
from heedwise.turns import erred, own_errors
from heedwise.weighers import Weigher
from heedwise.wholes import halvings

FRACTIONS = ((0, 1), (0, 100), (1, 2), (2, 3), (1, 100), (50, 100), (98, 99), (99, 100))

TURNS = (((0, 1, None), 1), ((0, 1, 1), 1), ((1, 0, 1), 1), ((None, None, None), 1))

# What is no turn of three advisers on the scale from 0 to 1.
NO_TURNS = (
    ((0, 1), 1), ((0, 1, 1, 0), 1), ((), 1), ((0, 2, 1), 1), ((0, -1, 1), 1), ((0, 1, GREATEST), 1), ((0, 1, 1), 2),
    ((0, 1, 1), -1), ((0, 1, 1), None), ((0, 1, True), 1), ((0, 1, 1), True), ((0, 1, "1"), 1), ((0, 1, 1), "1"),
    ((0, 1, (1,)), 1), ([0, 1, 1], 1), [(0, 1, 1), 1], ((0, 1, 1),), ((0, 1, 1), 1, 1), (), [], "", "ab", 0, 2, True,
    None,
)


def drawn_turns(source, many, scale, count):
    whats = [None] + list(range(scale + 1))
    return tuple((tuple(source.choices(whats, k=many)), source.randint(0, scale)) for turn in range(count))


def erring_turns(source, weigher, count):
    """On the scale 1: what was so is what the weigher doesn't say."""
    runner = weigher.anew()
    turns = []
    for number in range(count):
        said = tuple(source.choice((None, 0, 1, 1)) for adviser in range(weigher.many))
        turns.append((said, 1 - runner.say(said)))
        runner.hear(*turns[-1])
    return tuple(turns)


def keeps(many, top, bottom, own, errors):
    """What the document says of the number of errors."""
    return top ** own * (2 * bottom) ** errors <= many * (bottom + top) ** errors * bottom ** own


class RefusedTurnsTest(unittest.TestCase):
    def assert_refused(self, call, hand, turns, number):
        with self.assertRaises(NoTurn, msg=turns) as caught:
            call(hand, turns)
        self.assertIs(type(caught.exception), NoTurn)
        self.assertEqual(caught.exception.number, number)

    def asked(self):
        weigher = Weigher(3, 1, 1, 2)
        return ((ran, Hand(3, 1)), (ran, weigher), (paper, weigher))

    def test_the_number_is_that_of_the_turn(self):
        for (call, hand), bad in itertools.product(self.asked(), NO_TURNS):
            for ahead, behind in ((0, 0), (1, 0), (2, 2), (4, 1)):
                self.assert_refused(call, hand, TURNS[:ahead] + (bad,) + TURNS[:behind], ahead)

    def test_the_first_of_several(self):
        for call, hand in self.asked():
            for first, second in itertools.product(NO_TURNS, repeat=2):
                self.assert_refused(call, hand, TURNS[:3] + (first, TURNS[0], second), 3)

    def test_what_is_no_tuple(self):
        for call, hand in self.asked():
            for turns in ([], list(TURNS), "", "0 1 : 1", 0, 1, GREATEST, True, False, None):
                self.assert_refused(call, hand, turns, 0)

    def test_turns_for_another_hand(self):
        turns = (((0, 3), 1), ((0, 2), 3))
        self.assertEqual(ran(Hand(2, 3), turns), (0, 0))
        self.assert_refused(ran, Hand(2, 2), turns, 0)
        self.assert_refused(ran, Hand(2, 2), turns[1:], 0)
        self.assert_refused(ran, Hand(3, 3), turns, 0)
        self.assert_refused(paper, Weigher(1, 3, 1, 2), turns, 0)

    def test_what_is_refused_changes_nothing(self):
        weigher = Weigher(3, 1, 1, 2)
        weigher.hear((0, 1, None), 1)
        for call, bad in itertools.product((ran, paper), NO_TURNS):
            self.assert_refused(call, weigher, TURNS + (bad,), 4)
            self.assertEqual(weigher.weights(), ((4, 8, 6), 6))


class RanTest(unittest.TestCase):
    def assert_ran(self, hand, turns, wanted):
        told = ran(hand, turns)
        self.assertEqual(told, wanted)
        self.assertIs(type(told), tuple)
        self.assertEqual([type(one) for one in told], [int] * len(turns))

    def test_of_no_turns(self):
        for hand in (Hand(1, 1), Hand(24, 10), Weigher(3, 1, 1, 2)):
            self.assert_ran(hand, (), ())

    def test_by_hand(self):
        self.assert_ran(Hand(3, 1), TURNS, (0, 1, 1, 0))
        # Behind two turns the second one weighs as much as the others do.
        self.assert_ran(Weigher(3, 1, 1, 2), TURNS, (0, 1, 0, 0))

    def test_turn_by_turn_hearing_each(self):
        source = random.Random(1)
        for hand in (Hand(3, 4), Weigher(3, 4, 1, 3), Weigher(24, 1, 0, 1), Weigher(1, 10, 99, 100)):
            turns = drawn_turns(source, hand.many, hand.scale, 60)
            runner = hand.anew()
            sayings = []
            for said, so in turns:
                sayings.append(runner.say(said))
                runner.hear(said, so)
            self.assert_ran(hand, turns, tuple(sayings))

    def test_a_new_one_is_asked(self):
        weigher = Weigher(3, 1, 1, 2)
        for number in range(5):
            weigher.hear((1, 0, 0), 1)
        kept = weigher.weights()
        self.assertEqual(weigher.say((1, 0, 0)), 1)
        for again in range(2):
            self.assert_ran(weigher, TURNS, (0, 1, 0, 0))
            self.assertEqual(weigher.weights(), kept)
            self.assertEqual(weigher.say((1, 0, 0)), 1)


class PaperTest(unittest.TestCase):
    def assert_paper(self, weigher, turns, wanted):
        told = paper(weigher, turns)
        self.assertEqual(told, wanted)
        self.assertIs(type(told), tuple)
        for line in told:
            self.assertIs(type(line), tuple)
            self.assertEqual([type(one) for one in line], [int] * 4)

    def test_of_no_turns(self):
        for making in ((1, 1, 0, 1), (3, 1, 1, 2), (24, 10, 99, 100)):
            self.assert_paper(Weigher(*making), (), ())

    def test_by_hand(self):
        # Behind the turns the weights are (4, 8, 6) / 6, (8, 32, 24) / 24, (64, 128, 192) / 144, and the same times 6.
        lines = ((0, 1, 18, 6), (1, 0, 64, 24), (0, 1, 384, 144), (0, 1, 2304, 864))
        self.assert_paper(Weigher(3, 1, 1, 2), TURNS, lines)
        for count in range(4):
            self.assert_paper(Weigher(3, 1, 1, 2), TURNS[:count], lines[:count])

    def test_above_the_scale_1(self):
        turns = (((3, 0), 2), ((None, 1), 3))
        self.assert_paper(Weigher(2, 3, 2, 3), turns, ((0, 2, 540, 351), (1, 2, 160380, 123201)))

    def test_turn_by_turn(self):
        source = random.Random(2)
        for making in ((3, 4, 1, 3), (24, 1, 0, 1), (1, 10, 99, 100), (6, 2, 1, 2)):
            turns = drawn_turns(source, making[0], making[1], 60)
            lines = plain_paper(Weigher(*making), turns)
            self.assert_paper(Weigher(*making), turns, lines)
            self.assertEqual(ran(Weigher(*making), turns), tuple(line[0] for line in lines))

    def test_a_new_one_is_asked(self):
        weigher = Weigher(3, 1, 1, 2)
        first = paper(weigher, TURNS)
        for number in range(5):
            weigher.hear((1, 0, 0), 1)
        kept = weigher.weights()
        for again in range(2):
            self.assert_paper(weigher, TURNS, first)
            self.assertEqual(weigher.weights(), kept)

    def test_what_stands_under_weigher_is_asked_for_its_own_anew(self):
        class Loud(Weigher):
            def say(self, said):
                return self.scale

            def anew(self):
                return Loud(self.many, self.scale, self.top, self.bottom)

        turns = (((0, 0), 1),)
        self.assert_paper(Loud(2, 1, 1, 2), turns, ((1, 0, 4, 4),))
        self.assertEqual(ran(Loud(2, 1, 1, 2), turns), (1,))


class MostErrorsTest(unittest.TestCase):
    def test_by_hand(self):
        # Four thirds, taken 11 times, are less than 24, and 12 times above it; taken twice less than 2.
        self.assertEqual(most_errors(24, 1, 2, 0), 11)
        self.assertEqual(most_errors(1, 1, 2, 1), 2)
        self.assertEqual(most_errors(1, 1, 2, 0), 0)
        # Six fifths, taken twice, are less than three halves, and three times above them.
        self.assertEqual(most_errors(1, 2, 3, 1), 2)

    def test_the_told_number_keeps_to_it_and_one_more_does_not(self):
        for many, (top, bottom) in itertools.product((1, 2, 3, 16, 24), FRACTIONS):
            for own in (0, 1, 2, 3, 10, 59, 60):
                self.assert_greatest(many, top, bottom, own)

    def test_all_counts_of_own_errors(self):
        for own in range(61):
            for many, top, bottom in ((1, 1, 2), (24, 99, 100), (24, 1, 100), (7, 2, 3)):
                self.assert_greatest(many, top, bottom, own)

    def test_all_fractions(self):
        for bottom in range(1, 101):
            for top in sorted({0, 1, bottom // 2, bottom - 1}):
                if top < bottom:
                    self.assert_greatest(24, top, bottom, 0)
                    self.assert_greatest(5, top, bottom, 4)

    def assert_greatest(self, many, top, bottom, own):
        told = most_errors(many, top, bottom, own)
        if top == 0 and own > 0:
            self.assertIsNone(told)
            return
        self.assertIs(type(told), int)
        self.assertGreaterEqual(told, 0)
        self.assertTrue(keeps(many, top, bottom, own, told))
        self.assertFalse(keeps(many, top, bottom, own, told + 1))

    def test_fraction_0(self):
        for many, bottom in itertools.product(range(1, 25), (1, 2, 100)):
            self.assertEqual(most_errors(many, 0, bottom, 0), halvings(many))
            for own in (1, 2, 60):
                self.assertIsNone(most_errors(many, 0, bottom, own))

    def test_just_at_the_bound(self):
        for many, wanted in ((1, 0), (2, 1), (3, 1), (4, 2), (7, 2), (8, 3), (15, 3), (16, 4), (24, 4)):
            self.assertEqual(most_errors(many, 0, 1, 0), wanted)

    def test_no_weigher_errs_more_often(self):
        source = random.Random(3)
        for many, (top, bottom) in itertools.product((1, 2, 3, 9, 24), FRACTIONS):
            weigher = Weigher(many, 1, top, bottom)
            for turns in (drawn_turns(source, many, 1, 60), erring_turns(source, weigher, 60)):
                own = erred(many, turns)
                hands = own_errors(many, turns, ran(weigher, turns))
                for adviser in range(many):
                    most = most_errors(many, top, bottom, own[adviser])
                    if most is not None:
                        self.assertLessEqual(hands[adviser], most)

    def test_it_ends_where_no_number_is_the_greatest(self):
        for top, bottom in ((1, 1), (2, 2), (3, 2), (100, 100)):
            self.assertIsNone(most_errors(2, top, bottom, 0))
            self.assertIsNone(most_errors(2, top, bottom, 5))


if __name__ == "__main__":
    unittest.main()
