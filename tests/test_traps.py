import itertools
import random
import unittest

from samples import GREATEST, bare_hands, hands_for, having_heard, tiers_for, told_of

from heedwise.errors import NoWay
from heedwise.followers import Follower
from heedwise.hands import Hand
from heedwise.papers import ran
from heedwise.rounders import Rounder
from heedwise.shifters import Shifter
from heedwise.tiers import Tier
from heedwise.traps import trap, trap_following
from heedwise.turns import charge, check_turns, erred
from heedwise.weighers import Weigher

COUNTS = (0, 1, 2, 5, 60)


class Fickle(Hand):
    """Another hand: by how many turns it heard it says 0 or scale, in threes."""

    def __init__(self, many, scale):
        Hand.__init__(self, many, scale)
        self.heard = 0

    def say(self, said):
        return 0 if self.heard % 3 == 0 else self.scale

    def hear(self, said, so):
        self.heard = self.heard + 1

    def anew(self):
        return Fickle(self.many, self.scale)


class TurnsTest(unittest.TestCase):
    def assert_turns(self, hand, count, turns):
        """Turns of the told kind, so many as were asked for, all awake, and a new hand errs in each."""
        self.assertIs(type(turns), tuple)
        self.assertIsNone(check_turns(hand.many, hand.scale, turns))
        self.assertEqual(len(turns), count)
        for said, so in turns:
            self.assertNotIn(None, said)
        for saying, (said, so) in zip(ran(hand, turns), turns):
            self.assertNotEqual(saying, so)


class TrapFollowingTest(TurnsTest):
    def followers(self):
        source = random.Random(21)
        for many, scale in itertools.product((1, 2, 3, 7, 24), (1, 2, 10)):
            small = tuple(source.randint(0, 5) for adviser in range(many))
            great = tuple(source.randint(10 ** 59, GREATEST) for adviser in range(many))
            for push in (None, small, small[::-1], great, (GREATEST,) * many, tuple(range(many, 0, -1))):
                yield Follower(many, scale, push)

    def assert_trapped(self, follower, count):
        scores = follower.scores()
        turns = trap_following(follower, count)
        self.assertEqual((follower.scores(), follower.anew().scores()), (scores, follower.push))
        self.assert_turns(follower, count, turns)
        for said, so in turns:
            self.assertEqual(len([what for what in said if what != so]), 1)
        self.assertLessEqual(min(erred(follower.many, turns)), count // follower.many)
        self.assertEqual(sum(erred(follower.many, turns)), count)

    def test_of_a_new_one(self):
        for follower in self.followers():
            for count in COUNTS:
                self.assert_trapped(follower, count)

    def test_of_one_that_has_heard_turns(self):
        for number, follower in enumerate(self.followers()):
            having_heard(follower, number)
            for count in COUNTS:
                self.assert_trapped(follower, count)

    def test_all_counts(self):
        for count in range(61):
            self.assert_trapped(Follower(3, 1), count)
            self.assert_trapped(Follower(2, 10, (7, 0)), count)

    def test_no_turns(self):
        self.assertEqual(trap_following(Follower(1, 1), 0), ())
        self.assertEqual(trap_following(Follower(24, 10), 0), ())

    def test_asked_again(self):
        follower = Follower(4, 3, (2, 0, 0, 1))
        self.assertEqual(trap_following(follower, 30), trap_following(follower, 30))
        self.assert_trapped(follower, 30)


class TrapTest(TurnsTest):
    def assert_sos(self, hand, wanted):
        told = trap(hand, len(wanted))
        self.assertEqual(tuple(so for said, so in told), wanted)
        said = (0, hand.scale) * 12
        self.assertEqual([turn[0] for turn in told], [said[:hand.many]] * len(wanted))

    def test_a_hand_by_hand(self):
        self.assertEqual(trap(Hand(2, 1), 2), (((0, 1), 1), ((0, 1), 1)))
        self.assertEqual(trap(Hand(3, 10), 1), (((0, 10, 0), 10),))
        self.assertEqual(trap(Hand(5, 4), 2), (((0, 4, 0, 4, 0), 4),) * 2)
        self.assert_sos(Hand(24, 1), (1,) * 60)

    def test_a_weigher_by_hand(self):
        # The ones that erred weigh half as much, until the others err too.
        self.assert_sos(Weigher(2, 1, 1, 2), (1, 0, 1, 0, 1, 0))
        self.assert_sos(Weigher(2, 10, 1, 2), (10, 0, 10, 0))
        # Two against one: it takes one error more, at first.
        self.assert_sos(Weigher(3, 1, 1, 2), (1, 1, 0, 1, 0))
        # Behind two turns none has weight: so each counts 1.
        self.assert_sos(Weigher(3, 2, 0, 1), (2, 0, 2, 2, 2))

    def test_a_follower_by_hand(self):
        self.assert_sos(Follower(2, 1), (1, 0, 1, 0))
        self.assert_sos(Follower(3, 1), (1, 0, 1, 0))
        # The scores are (15, 0), (15, 10), (15, 20), (25, 20), (25, 30).
        self.assert_sos(Follower(2, 10, (15, 0)), (0, 0, 10, 0, 10))

    def test_a_rounder_by_hand(self):
        self.assert_sos(Rounder(2, 1), (1, 0, 1, 0))
        self.assert_sos(Rounder(5, 3), (3, 0, 3, 0, 3))

    def test_a_shifter_by_hand(self):
        # The tops are (1, 1), (20, 28), (592, 496), (11072, 14272).
        self.assert_sos(Shifter(2, 1, 1, 2, 1, 2), (1, 0, 1, 0))
        # None is left without weight: so the ones that erred in the third turn are behind in the fourth.
        self.assert_sos(Shifter(3, 2, 0, 1, 1, 100), (2, 0, 2, 0))

    def test_a_tier_by_hand(self):
        hands = (Hand(2, 1), Follower(2, 1))
        # The Hand says 0 in each turn, and half is enough for the head.
        self.assert_sos(Tier(hands, Hand(2, 1)), (1, 1, 1, 1))
        # The Follower says 1 from the second turn on; behind that turn it has the lesser score, behind the third not.
        self.assert_sos(Tier(hands, Follower(2, 1)), (1, 1, 0, 1, 0))
        self.assert_sos(Tier(hands, Weigher(2, 1, 1, 2)), (1, 1, 0, 1, 0))

    def test_what_the_words_say(self):
        for many, scale in itertools.product((2, 3, 4, 7, 23, 24), (1, 2, 10)):
            for number, hand in enumerate(bare_hands(many, scale)):
                for count in COUNTS:
                    self.assert_trapped(hand, count)
                having_heard(hand, number)
                for count in (0, 1, 60):
                    self.assert_trapped(hand, count)

    def test_what_the_words_say_of_tiers(self):
        for many, scale in ((2, 10), (3, 1), (24, 2)):
            for number, tier in enumerate(tiers_for(many, scale)):
                self.assert_trapped(tier, 20)
                having_heard(tier, number, 5)
                for count in (0, 1, 6):
                    self.assert_trapped(tier, count)
        self.assert_trapped(Tier((Rounder(2, 1), Follower(2, 1)), Shifter(2, 1, 1, 2, 1, 2)), 60)

    def assert_trapped(self, hand, count):
        before = told_of(hand)
        turns = trap(hand, count)
        self.assertEqual(told_of(hand), before)
        self.assert_turns(hand, count, turns)
        runner = hand.anew()
        for said, so in turns:
            self.assertEqual(said[::2], (0,) * len(said[::2]))
            self.assertEqual(said[1::2], (hand.scale,) * len(said[1::2]))
            self.assertEqual(so, hand.scale if runner.say(said) == 0 else 0)
            runner.hear(said, so)
            wrong = [adviser for adviser in range(hand.many) if charge(said[adviser], so) > 0]
            self.assertIn(wrong, (list(range(0, hand.many, 2)), list(range(1, hand.many, 2))))

    def test_another_hand(self):
        hand = Fickle(4, 5)
        self.assertEqual(trap(hand, 4), tuple(((0, 5, 0, 5), so) for so in (5, 0, 0, 5)))
        hand.hear((0, 0, 0, 0), 0)
        self.assertEqual(trap(hand, 4), tuple(((0, 5, 0, 5), so) for so in (5, 0, 0, 5)))
        self.assertEqual(hand.heard, 1)

    def test_one_adviser(self):
        for scale in (1, 10):
            for number, hand in enumerate(hands_for(1, scale)):
                for count in COUNTS:
                    self.assert_no_way(hand, count)
                having_heard(hand, number, 5)
                self.assert_no_way(hand, 0)
                self.assert_no_way(hand, 60)

    def assert_no_way(self, hand, count):
        before = told_of(hand)
        with self.assertRaises(NoWay) as caught:
            trap(hand, count)
        self.assertIs(type(caught.exception), NoWay)
        self.assertEqual(told_of(hand), before)

    def test_one_adviser_of_a_follower_is_trapped_otherwise(self):
        self.assertEqual(len(trap_following(Follower(1, 1), 60)), 60)


if __name__ == "__main__":
    unittest.main()
