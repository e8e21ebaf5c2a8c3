import itertools
import random
import unittest

from samples import HandTest, drawn_turns, hurting_turns

from heedwise.errors import NoTurn
from heedwise.hands import Hand
from heedwise.papers import ran
from heedwise.rounders import Rounder
from heedwise.wholes import halvings, middle

YES, NO = True, False


def kept(rounder):
    return (rounder.ins(), rounder.rounds(), rounder.heeded(), rounder.say((2, 0)), rounder.say((None, 1)))


class RounderTest(HandTest):
    def assert_state(self, rounder, ins, rounds):
        self.assertEqual((rounder.ins(), rounder.rounds()), (ins, rounds))
        self.assertIs(type(rounder.ins()), tuple)
        self.assertEqual([type(one) for one in rounder.ins()], [bool] * rounder.many)
        self.assertIs(type(rounder.rounds()), int)
        self.assertEqual(rounder.heeded(), tuple(int(one) for one in ins))
        self.assertIs(type(rounder.heeded()), tuple)
        self.assertEqual([type(one) for one in rounder.heeded()], [int] * rounder.many)


class MakingTest(RounderTest):
    def test_it_is_a_hand(self):
        self.assertEqual(Rounder.__bases__, (Hand,))
        self.assertIsInstance(Rounder(2, 1), Hand)

    def test_at_first(self):
        for many, scale in itertools.product((1, 2, 3, 24), (1, 2, 10)):
            rounder = Rounder(many, scale)
            self.assertEqual((rounder.many, rounder.scale), (many, scale))
            self.assert_state(rounder, (YES,) * many, 0)

    def test_refused(self):
        self.assert_makings_refused(Rounder)


class HearTest(RounderTest):
    def test_by_hand(self):
        rounder = Rounder(4, 1)
        self.assertIsNone(rounder.hear((0, 1, 1, 1), 1))
        self.assert_state(rounder, (NO, YES, YES, YES), 0)
        # One that is out stays out, also where it is right.
        rounder.hear((1, 1, 0, 1), 1)
        self.assert_state(rounder, (NO, YES, NO, YES), 0)
        rounder.hear((1, 1, 1, 1), 1)
        self.assert_state(rounder, (NO, YES, NO, YES), 0)
        rounder.hear((1, 0, 1, 0), 1)
        self.assert_state(rounder, (YES, YES, YES, YES), 1)
        rounder.hear((0, 0, 0, 0), 1)
        self.assert_state(rounder, (YES, YES, YES, YES), 2)
        rounder.hear((0, 0, 0, 1), 1)
        self.assert_state(rounder, (NO, NO, NO, YES), 2)

    def test_one_that_sleeps_does_not_err(self):
        rounder = Rounder(3, 1)
        rounder.hear((None, 0, None), 1)
        self.assert_state(rounder, (YES, NO, YES), 0)
        rounder.hear((0, None, None), 1)
        self.assert_state(rounder, (NO, NO, YES), 0)
        rounder.hear((None, None, None), 1)
        self.assert_state(rounder, (NO, NO, YES), 0)
        rounder.hear((0, 0, None), 1)
        self.assert_state(rounder, (NO, NO, YES), 0)
        rounder.hear((None, None, 0), 1)
        self.assert_state(rounder, (YES, YES, YES), 1)

    def test_above_the_scale_1(self):
        rounder = Rounder(3, 10)
        # Off by one is an error as off by ten is.
        rounder.hear((9, 10, 0), 10)
        self.assert_state(rounder, (NO, YES, NO), 0)
        rounder.hear((4, 3, 4), 4)
        self.assert_state(rounder, (YES, YES, YES), 1)
        rounder.hear((4, 5, 3), 4)
        self.assert_state(rounder, (YES, NO, NO), 1)

    def test_one_adviser(self):
        rounder = Rounder(1, 3)
        for number in range(1, 61):
            rounder.hear((3,), 2)
            self.assert_state(rounder, (YES,), number)
        rounder.hear((2,), 2)
        rounder.hear((None,), 2)
        self.assert_state(rounder, (YES,), 60)

    def test_turn_by_turn(self):
        source = random.Random(23)
        for many, scale in itertools.product((1, 2, 5, 24), (1, 2, 10)):
            self.assert_turn_by_turn(Rounder(many, scale), drawn_turns(source, many, scale))
            self.assert_turn_by_turn(Rounder(many, scale), hurting_turns(source, Rounder(many, scale)))

    def assert_turn_by_turn(self, rounder, turns):
        out, rounds = set(), 0
        for said, so in turns:
            self.assert_state(rounder, tuple(adviser not in out for adviser in range(rounder.many)), rounds)
            awake = [adviser for adviser in range(rounder.many) if said[adviser] is not None]
            weights = tuple(int(adviser not in out) for adviser in awake)
            self.assertEqual(rounder.say(said), middle(tuple(said[adviser] for adviser in awake), weights))
            rounder.hear(said, so)
            out = out | {adviser for adviser in awake if said[adviser] != so}
            if len(out) == rounder.many:
                out, rounds = set(), rounds + 1


class SayTest(RounderTest):
    def test_where_all_are_in(self):
        self.assertEqual(Rounder(3, 10).say((5, 1, 3)), 3)
        self.assertEqual(Rounder(4, 10).say((9, 2, 7, 4)), 4)
        self.assertEqual(Rounder(4, 10).say((9, None, 7, 4)), 7)

    def test_where_some_are_out(self):
        rounder = Rounder(4, 10)
        rounder.hear((1, 0, 1, 0), 1)
        self.assert_state(rounder, (YES, NO, YES, NO), 0)
        self.assertEqual(rounder.say((9, 0, 8, 1)), 8)
        self.assertEqual(rounder.say((3, 10, 7, 10)), 3)
        self.assertEqual(rounder.say((None, 10, 7, 10)), 7)
        self.assertEqual(rounder.say((3, 10, None, None)), 3)

    def test_where_all_that_are_awake_are_out(self):
        rounder = Rounder(4, 10)
        rounder.hear((0, 0, 0, 1), 1)
        self.assert_state(rounder, (NO, NO, NO, YES), 0)
        self.assertEqual(rounder.say((9, 2, 5, None)), 5)
        self.assertEqual(rounder.say((9, 2, None, None)), 2)
        self.assertEqual(rounder.say((9, None, None, None)), 9)
        self.assertEqual(rounder.say((9, 2, 5, 0)), 0)

    def test_none_awake(self):
        for many in (1, 2, 24):
            rounder = Rounder(many, 10)
            self.assertEqual(rounder.say((None,) * many), 0)
            rounder.hear((3,) + (2,) * (many - 1), 2)
            self.assertEqual(rounder.say((None,) * many), 0)
            self.assertIs(type(rounder.say((None,) * many)), int)

    def test_the_order_of_the_advisers_changes_nothing(self):
        source = random.Random(24)
        for scale in (1, 2, 6):
            for order in itertools.permutations(range(4)):
                turns = drawn_turns(source, 4, scale, 20)
                self.assert_the_same_turned_about(Rounder(4, scale), Rounder(4, scale), turns, order)


class KeptTest(RounderTest):
    def setUp(self):
        self.rounder = Rounder(2, 2)
        self.rounder.hear((0, 0), 2)
        self.rounder.hear((0, 1), 0)
        self.assert_state(self.rounder, (YES, NO), 1)

    def test_asking_changes_nothing(self):
        self.assert_asking_changes_nothing(self.rounder, kept, itertools.product((None, 0, 1, 2), repeat=2))

    def test_what_is_refused_changes_nothing(self):
        self.assert_refusals_change_nothing(self.rounder, kept)
        self.assert_refusals_change_nothing(Rounder(2, 2), kept)
        self.assert_state(self.rounder, (YES, NO), 1)

    def test_two_rounders_share_nothing(self):
        other = Rounder(2, 2)
        self.assert_state(other, (YES, YES), 0)
        other.hear((0, 1), 1)
        self.assert_state(other, (NO, YES), 0)
        self.assert_state(self.rounder, (YES, NO), 1)

    def test_what_was_told_stays(self):
        told = (self.rounder.ins(), self.rounder.rounds(), self.rounder.heeded())
        self.rounder.hear((0, 0), 1)
        self.assertEqual(told, ((YES, NO), 1, (1, 0)))
        self.assert_state(self.rounder, (YES, YES), 2)

    def test_anew(self):
        other = self.rounder.anew()
        self.assertIs(type(other), Rounder)
        self.assertIsNot(other, self.rounder)
        self.assertEqual((other.many, other.scale), (2, 2))
        self.assert_state(other, (YES, YES), 0)
        self.assert_state(self.rounder, (YES, NO), 1)
        other.hear((0, 2), 2)
        self.assert_state(other, (NO, YES), 0)
        self.assert_state(self.rounder, (YES, NO), 1)

    def test_ran(self):
        turns = (((0, 1), 0), ((2, 1), 1), ((2, 1), 2), ((2, 1), 1), ((None, None), 2))
        # Behind the turns are in: the first; both, a round being over; the first; both, likewise.
        self.assertEqual(ran(self.rounder, turns), (0, 2, 1, 2, 0))
        self.assert_state(self.rounder, (YES, NO), 1)
        with self.assertRaises(NoTurn) as caught:
            ran(self.rounder, turns + (((2, 3), 0),))
        self.assertEqual(caught.exception.number, 5)
        self.assert_state(self.rounder, (YES, NO), 1)


class BoundTest(RounderTest):
    def test_how_often_it_erred(self):
        source = random.Random(25)
        for many, scale in itertools.product((1, 2, 3, 4, 5, 7, 8, 16, 23, 24), (1, 2, 10)):
            rounder = Rounder(many, scale)
            for count in (1, 10, 60):
                self.assert_bound(rounder, drawn_turns(source, many, scale, count, sleep=False))
                self.assert_bound(rounder, hurting_turns(source, rounder, count, sleep=False))
                self.assert_bound(rounder, self.slow_turns(source, many, scale, count))

    def slow_turns(self, source, many, scale, count):
        """Turns in which most advisers are right, so that rounds are long."""
        turns = []
        for number in range(count):
            so = source.randint(0, scale)
            turns.append((tuple(source.choice((so,) * 9 + (scale - so,)) for adviser in range(many)), so))
        return tuple(turns)

    def assert_bound(self, rounder, turns):
        runner = rounder.anew()
        errors, over, erred_in_round = 0, 0, set()
        twos = halvings(rounder.many)
        for said, so in turns:
            errors = errors + (runner.say(said) != so)
            runner.hear(said, so)
            erred_in_round = erred_in_round | {adviser for adviser in range(rounder.many) if said[adviser] != so}
            if runner.rounds() != over:
                self.assertEqual(runner.rounds(), over + 1)
                self.assertEqual(len(erred_in_round), rounder.many)
                over, erred_in_round = runner.rounds(), set()
            self.assertLessEqual(errors, (twos + 1) * runner.rounds() + twos)

    def test_the_bound_is_reached(self):
        for twos in range(5):
            rounder = Rounder(2 ** twos, 1)
            for number in range((twos + 1) * 3 + twos):
                ins = [adviser for adviser in range(rounder.many) if rounder.ins()[adviser]]
                # Half of those that are in err, and so does the hand: the last one in errs alone.
                wrong = ins[:max(len(ins) // 2, 1)]
                said = tuple(0 if adviser in wrong else 1 for adviser in range(rounder.many))
                self.assertEqual(rounder.say(said), 0)
                rounder.hear(said, 1)
            self.assertEqual(rounder.rounds(), 3)


if __name__ == "__main__":
    unittest.main()
