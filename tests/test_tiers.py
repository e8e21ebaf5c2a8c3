import itertools
import random
import unittest

from samples import (
    FRACTIONS, HandTest, bare_hands, drawn_turns, hands_for, having_heard, hurting_turns, tiers_for, told_of,
)

from heedwise.books import Book
from heedwise.errors import NoTurn
from heedwise.followers import Follower, most_following
from heedwise.hands import Hand
from heedwise.meaners import Meaner
from heedwise.papers import most_errors, ran
from heedwise.rounders import Rounder
from heedwise.shifters import Shifter
from heedwise.tiers import Tier
from heedwise.turns import charges
from heedwise.weighers import Weigher
from heedwise.wholes import halvings


class Plain:
    """What the document says of a Tier, with hands and a head that no one else has."""

    def __init__(self, hands, head):
        self.hands = hands
        self.head = head
        self.charges = [0] * len(hands)

    def say(self, said):
        return self.head.say(tuple(hand.say(said) for hand in self.hands))

    def hear(self, said, so):
        sayings = tuple(hand.say(said) for hand in self.hands)
        for place, saying in enumerate(sayings):
            self.charges[place] += abs(saying - so)
        for hand in self.hands:
            hand.hear(said, so)
        self.head.hear(sayings, so)


def drawn_plan(source, many, scale, depth):
    """How a hand is made: a function and its arguments, or a pair of plans of hands and a plan of a head."""
    if depth > 0:
        count = source.choice((1, 2, 3, 5))
        hands = [drawn_plan(source, many, scale, depth - 1) for number in range(count - 1)]
        hands.append(drawn_plan(source, many, scale, source.randrange(depth)))
        return (hands, drawn_plan(source, count, scale, source.randrange(depth)))
    top, bottom = source.choice(FRACTIONS)
    push = tuple(source.randint(0, 9) for adviser in range(many))
    return source.choice((
        (Hand, many, scale), (Weigher, many, scale, top, bottom), (Follower, many, scale, push),
        (Rounder, many, scale), (Shifter, many, scale, top, bottom, 1, 3),
    ))


def built(plan, tier):
    if isinstance(plan[0], list):
        return tier(tuple(built(hand, tier) for hand in plan[0]), built(plan[1], tier))
    return plan[0](*plan[1:])


def sayings_as_turns(hands, turns):
    """What the hands say for turns, as turns themselves."""
    sayings = zip(*[ran(hand, turns) for hand in hands])
    return tuple((said, so) for said, (given, so) in zip(sayings, turns))


def errors_of(sayings, turns):
    return len([saying for saying, (said, so) in zip(sayings, turns) if saying != so])


class TierTest(HandTest):
    def assert_turns(self, tier, lines):
        """Each line: what is said, what was so, what the Tier says ahead, its hands' charges behind."""
        for said, so, saying, charged in lines:
            self.assertEqual(tier.say(said), saying)
            self.assertIs(type(tier.say(said)), int)
            self.assertIsNone(tier.hear(said, so))
            self.assert_charges(tier, charged)

    def assert_charges(self, tier, charged):
        self.assertEqual(tier.hand_charges(), charged)
        self.assertIs(type(tier.hand_charges()), tuple)
        self.assertEqual([type(one) for one in tier.hand_charges()], [int] * len(charged))

    def assert_alike(self, one, other, turns):
        """They say the same in each turn, and their hands are charged the same."""
        for said, so in turns:
            self.assertEqual(one.say(said), other.say(said))
            one.hear(said, so)
            other.hear(said, so)
            self.assertEqual(one.hand_charges(), other.hand_charges())


class MakingTest(TierTest):
    def test_it_is_a_hand(self):
        self.assertEqual(Tier.__bases__, (Hand,))
        self.assertIsInstance(Tier((Hand(2, 1),), Hand(1, 1)), Hand)

    def test_at_first(self):
        for many, scale in ((1, 1), (3, 2), (24, 10)):
            for tier in tiers_for(many, scale):
                self.assertEqual((tier.many, tier.scale), (many, scale))
                self.assert_charges(tier, (0,) * len(tier.hand_charges()))
                self.assertIs(type(tier.heeded()), tuple)

    def test_one_hand_and_24(self):
        for count in (1, 2, 24):
            tier = Tier((Rounder(5, 3),) * count, Weigher(count, 3, 1, 2))
            self.assertEqual((tier.many, tier.scale), (5, 3))
            self.assert_charges(tier, (0,) * count)
            self.assertEqual(tier.say((3, 3, 3, 0, 0)), 3)
            tier.hear((3, 3, 3, 0, 0), 1)
            self.assert_charges(tier, (2,) * count)

    def test_no_hands(self):
        for head in bare_hands(1, 1) + tiers_for(1, 1) + bare_hands(2, 10):
            self.assert_no_rule(Tier, (), head)

    def test_unlike_many(self):
        for many, other in ((1, 2), (2, 1), (3, 24), (24, 23)):
            for place in range(3):
                hands = [Hand(many, 2), Rounder(many, 2), Follower(many, 2)]
                hands[place] = Weigher(other, 2, 1, 2)
                self.assert_no_rule(Tier, tuple(hands), Hand(3, 2))
                hands[place] = Tier((Hand(other, 2),), Hand(1, 2))
                self.assert_no_rule(Tier, tuple(hands), Hand(3, 2))

    def test_unlike_scales(self):
        for scale, other in ((1, 2), (2, 1), (9, 10), (10, 1)):
            for place in range(3):
                hands = [Hand(4, scale), Rounder(4, scale), Follower(4, scale)]
                hands[place] = Shifter(4, other, 1, 2, 1, 2)
                self.assert_no_rule(Tier, tuple(hands), Hand(3, scale))
                self.assert_no_rule(Tier, tuple(hands), Hand(3, other))
                hands[place] = Tier((Hand(4, other),), Hand(1, other))
                self.assert_no_rule(Tier, tuple(hands), Hand(3, scale))

    def test_a_head_for_more_or_fewer(self):
        for count, wrong in ((1, (2, 3, 24)), (2, (1, 3)), (3, (1, 2, 4, 24)), (24, (1, 23)), (25, (1, 2, 24))):
            for many in wrong:
                for head in bare_hands(many, 2) + tiers_for(many, 2):
                    self.assert_no_rule(Tier, (Hand(3, 2),) * count, head)

    def test_a_head_with_another_scale(self):
        for scale, other in ((1, 2), (2, 1), (9, 10), (10, 1)):
            for head in bare_hands(2, other) + tiers_for(2, other):
                self.assert_no_rule(Tier, (Hand(3, scale), Rounder(3, scale)), head)

    def test_what_is_no_hand(self):
        good = Hand(2, 1)
        for wrong in (None, 2, True, "ab", (), (good,), [good], Meaner(2, 1, 1, 2), Book(1, 1, 2)):
            self.assert_no_rule(Tier, (wrong,), Hand(1, 1))
            self.assert_no_rule(Tier, (good, wrong), good)
            self.assert_no_rule(Tier, (wrong, good), good)
            self.assert_no_rule(Tier, (good, good), wrong)
        for wrong in (None, 2, True, "ab", good, [], [good, good]):
            self.assert_no_rule(Tier, wrong, good)

    def test_what_was_refused_is_as_it_was(self):
        hands = (having_heard(Follower(2, 2), 1), having_heard(Weigher(2, 2, 1, 2), 2))
        head = having_heard(Rounder(3, 2), 3)
        before = [told_of(hand) for hand in hands + (head,)]
        self.assert_no_rule(Tier, hands, head)
        self.assertEqual([told_of(hand) for hand in hands + (head,)], before)


class ByHandTest(TierTest):
    def test_on_the_scale_1_with_sleepers(self):
        tier = Tier((Hand(3, 1), Follower(3, 1)), Weigher(2, 1, 1, 2))
        self.assert_turns(tier, (
            # They say 1 and 0; half is enough for the head, and it errs: the Hand then weighs 8, the Follower 4.
            ((0, 1, 1), 1, 0, (0, 1)),
            ((1, 0, None), 0, 0, (0, 1)),
            ((0, None, None), 1, 0, (1, 2)),
            # They say 1 and 0 again: the Hand weighs twice as much as the Follower does.
            ((1, 0, 1), 1, 1, (1, 3)),
            ((None, None, None), 1, 0, (2, 4)),
        ))

    def test_above_the_scale_1(self):
        hands = (Rounder(3, 10), Weigher(3, 10, 0, 1), Follower(3, 10, (0, 1, 2)))
        self.assert_turns(Tier(hands, Hand(3, 10)), (
            # All say 4. Then in are the second and the third; the tops are (0, 2, 1), the scores (5, 1, 2).
            ((4, 9, None), 9, 4, (5, 5, 5)),
            # They say 7, 8, 8. Then in is the third; the tops are (0, 0, 2), the scores (11, 2, 2).
            ((1, 8, 7), 7, 8, (5, 6, 6)),
            # They say 3, 3, 6. Then the scores are (18, 6, 2).
            ((3, 6, None), 10, 3, (12, 13, 10)),
            ((None, None, None), 2, 0, (14, 15, 12)),
            ((2, 5, 9), 9, 9, (14, 15, 12)),
        ))

    def test_one_hand(self):
        # The head hears what the hand says, not what the advisers say.
        tier = Tier((Follower(3, 10, (1, 0, 1)),), Rounder(1, 10))
        self.assert_turns(tier, (
            ((2, 7, 9), 9, 7, (2,)),
            ((2, 7, 9), 2, 9, (9,)),
            ((None, 7, None), 4, 7, (12,)),
            ((6, None, None), 6, 6, (12,)),
        ))

    def test_tiers_within_one_another(self):
        inner = Tier((Hand(2, 1), Follower(2, 1)), Follower(2, 1))
        outer = Tier((inner, Hand(2, 1)), Follower(2, 1))
        # The inner one's Follower says 1 from the second turn on; its head heeds it from the third.
        says = (0, 0, 1, 1)
        self.assert_turns(inner, zip([(0, 1)] * 4, [1] * 4, says, ((1, 1), (2, 1), (3, 1), (4, 1))))
        self.assert_turns(outer, zip([(0, 1)] * 4, [1] * 4, says, ((1, 1), (2, 2), (2, 3), (2, 4))))
        outermost = Tier((outer,), Hand(1, 1))
        self.assert_turns(outermost, zip([(0, 1)] * 4, [1] * 4, says, ((1,), (2,), (2,), (2,))))

    def test_a_tier_as_the_head(self):
        head = Tier((Hand(2, 1), Follower(2, 1)), Follower(2, 1))
        tier = Tier((Hand(2, 1), Follower(2, 1, (1, 0))), head)
        # The hands say 0 and 1, as the advisers of the Tier above do: so the head says the same.
        self.assert_turns(tier, zip([(0, 1)] * 4, [1] * 4, (0, 0, 1, 1), ((1, 0), (2, 0), (3, 0), (4, 0))))

    def test_the_hands_are_asked_ahead_of_hearing(self):
        tier = Tier((Follower(2, 1), Hand(2, 1)), Follower(2, 1))
        # Asked behind the turn, the first hand would say 1 and be charged nothing.
        self.assert_turns(tier, (((0, 1), 1, 0, (1, 1)), ((0, 1), 1, 1, (1, 2))))

    def test_ran(self):
        tier = Tier((Hand(3, 1), Follower(3, 1)), Weigher(2, 1, 1, 2))
        turns = (((0, 1, 1), 1), ((1, 0, None), 0), ((0, None, None), 1), ((1, 0, 1), 1))
        for again in range(3):
            self.assertEqual(ran(tier, turns), (0, 0, 0, 1))
            self.assertEqual(ran(tier, ()), ())
            before = told_of(tier)
            with self.assertRaises(NoTurn) as caught:
                ran(tier, turns + (((1, 0, 2), 1),))
            self.assertEqual(caught.exception.number, 4)
            self.assertEqual(told_of(tier), before)
            tier.hear((1, 0, 0), 1)


class DrawnTest(TierTest):
    def assert_plain(self, plan, turns):
        tier, plain = built(plan, Tier), built(plan, Plain)
        for said, so in turns:
            self.assertEqual(tier.say(said), plain.say(said))
            tier.hear(said, so)
            plain.hear(said, so)
            self.assertEqual(tier.hand_charges(), tuple(plain.charges))

    def test_what_the_words_say(self):
        source = random.Random(50)
        for many, scale, depth in itertools.product((1, 2, 5, 24), (1, 3, 10), (1, 2, 3)):
            for again in range(3):
                plan = drawn_plan(source, many, scale, depth)
                self.assert_plain(plan, drawn_turns(source, many, scale, 25))
                self.assert_plain(plan, hurting_turns(source, built(plan, Tier), 25))

    def test_24_hands_and_60_turns(self):
        source = random.Random(51)
        hands = [drawn_plan(source, 24, 10, 0) for number in range(24)]
        for head in ((Hand, 24, 10), (Weigher, 24, 10, 1, 2), (Follower, 24, 10), (Rounder, 24, 10)):
            self.assert_plain((hands, head), drawn_turns(source, 24, 10))

    def test_each_class_of_hands_with_each_class_of_heads(self):
        source = random.Random(52)
        for scale in (1, 4):
            turns = drawn_turns(source, 3, scale, 20)
            hands = tuple(hands_for(3, scale))
            said_turns = sayings_as_turns(hands, turns)
            for head in bare_hands(len(hands), scale):
                self.assert_head_hears_the_hands(Tier(hands, head), head, said_turns, turns)
            for head in tiers_for(3, scale):
                said_turns = sayings_as_turns(hands[:3], turns)
                self.assert_head_hears_the_hands(Tier(hands[:3], head), head, said_turns, turns)

    def assert_head_hears_the_hands(self, tier, head, said_turns, turns):
        self.assertEqual(ran(tier, turns), ran(head, said_turns))
        for said, so in turns:
            tier.hear(said, so)
        self.assertEqual(tier.hand_charges(), charges(head.many, said_turns))


class KeptTest(TierTest):
    def setUp(self):
        self.hands = (Follower(2, 2, (4, 3)), Weigher(2, 2, 1, 3), Rounder(2, 2), Tier((Hand(2, 2),), Follower(1, 2)))
        self.head = Shifter(4, 2, 1, 2, 1, 3)
        self.turns = drawn_turns(random.Random(53), 2, 2, 40)

    def made(self):
        return Tier(self.hands, self.head)

    def heard(self):
        tier = self.made()
        for said, so in self.turns[:7]:
            tier.hear(said, so)
        return tier

    def test_asking_changes_nothing(self):
        for tier in (self.made(), self.heard()):
            self.assert_asking_changes_nothing(tier, told_of, itertools.product((None, 0, 1, 2), repeat=2))
        asked, other = self.heard(), self.heard()
        for said in itertools.product((None, 0, 1, 2), repeat=2):
            asked.say(said)
        self.assert_alike(asked, other, self.turns)

    def test_what_is_refused_changes_nothing(self):
        refused, other = self.heard(), self.heard()
        self.assert_refusals_change_nothing(refused, told_of)
        self.assert_refusals_change_nothing(self.made(), told_of)
        self.assert_alike(refused, other, self.turns)

    def test_what_is_a_turn_for_its_head_alone(self):
        tier = self.heard()
        before = told_of(tier)
        self.assert_no_turn(tier.say, (0, 1, 2, 0))
        self.assert_no_turn(tier.hear, (0, 1, 2, 0), 1)
        self.assertEqual(told_of(tier), before)

    def test_what_was_handed_in_is_not_changed(self):
        for number, hand in enumerate(self.hands + (self.head,)):
            having_heard(hand, number)
        before = [told_of(hand) for hand in self.hands + (self.head,)]
        tier = self.made()
        for said, so in self.turns:
            tier.say(said)
            tier.hear(said, so)
        tier.anew().hear((0, 1), 2)
        ran(tier, self.turns)
        self.assertEqual([told_of(hand) for hand in self.hands + (self.head,)], before)

    def test_what_was_heard_ahead_is_not_heeded(self):
        other = self.made()
        for number, hand in enumerate(self.hands + (self.head,)):
            having_heard(hand, number)
        tier = self.made()
        self.assert_charges(tier, (0, 0, 0, 0))
        self.assert_alike(tier, other, self.turns)

    def test_what_is_heard_later_is_not_heeded(self):
        tier, other = self.made(), self.made()
        for said, so in self.turns[:20]:
            tier.hear(said, so)
            other.hear(said, so)
        for number, hand in enumerate(self.hands + (self.head,)):
            having_heard(hand, number)
        self.assert_alike(tier, other, self.turns[20:])
        self.assert_alike(tier.anew(), self.made(), self.turns)

    def test_one_hand_in_several_places(self):
        hand = having_heard(Follower(2, 2), 4)
        before = told_of(hand)
        tier = Tier((hand, hand), hand)
        self.assert_alike(tier, Tier((Follower(2, 2), Follower(2, 2)), Follower(2, 2)), self.turns)
        self.assertEqual(told_of(hand), before)
        within = Tier((tier, hand), tier)
        self.assert_charges(within, (0, 0))
        fresh = Tier((Follower(2, 2), Follower(2, 2)), Follower(2, 2))
        self.assert_alike(within, Tier((fresh, Follower(2, 2)), fresh), self.turns)

    def test_two_tiers_share_nothing(self):
        one, other, third = self.made(), self.made(), self.made()
        for said, so in self.turns:
            one.hear(said, so)
        self.assert_charges(other, (0, 0, 0, 0))
        self.assert_alike(other, third, self.turns)
        self.assert_alike(one.anew(), self.made(), self.turns)

    def test_what_was_told_stays(self):
        tier = self.made()
        tier.hear((0, 0), 2)
        told = tier.hand_charges()
        tier.hear((0, 0), 2)
        self.assertEqual((told, tier.hand_charges()), ((2, 2, 2, 2), (4, 4, 4, 4)))

    def test_anew(self):
        tier = self.heard()
        before = told_of(tier)
        other = tier.anew()
        self.assertIs(type(other), Tier)
        self.assertIsNot(other, tier)
        self.assertEqual((other.many, other.scale), (2, 2))
        self.assert_charges(other, (0, 0, 0, 0))
        self.assert_alike(other, self.made(), self.turns)
        self.assertEqual(told_of(tier), before)
        self.assert_alike(tier, self.heard(), self.turns)
        self.assert_alike(other.anew().anew(), self.made(), self.turns)

    def test_anew_of_each(self):
        for many, scale in ((1, 10), (3, 1)):
            turns = drawn_turns(random.Random(54), many, scale, 10)
            for tier, fresh in zip(tiers_for(many, scale), tiers_for(many, scale)):
                having_heard(tier, 5, 5)
                self.assert_alike(tier.anew(), fresh, turns)


class BoundTest(TierTest):
    """What is told of the head's class, with the hands' charges as the advisers'."""

    def runs(self, seed, scale, heads):
        """Tiers that have heard turns, with what they said and the turns."""
        source = random.Random(seed)
        for count, many in ((1, 3), (2, 1), (3, 2), (6, 5), (16, 3), (24, 24)):
            hands = tuple(built(drawn_plan(source, many, scale, 0), Tier) for number in range(count))
            for head in heads(count, source):
                tier = Tier(hands, head)
                for turns in (drawn_turns(source, many, scale), hurting_turns(source, tier)):
                    runner = tier.anew()
                    for said, so in turns:
                        runner.hear(said, so)
                    yield head, runner, ran(tier, turns), turns

    def weighers(self, scale):
        return lambda count, source: [Weigher(count, scale, top, bottom) for top, bottom in ((0, 1), (1, 2), (99, 100))]

    def test_a_weigher_as_the_head(self):
        for scale in (1, 4):
            for head, tier, sayings, turns in self.runs(55, scale, self.weighers(scale)):
                top, bottom, count = head.top, head.bottom, len(turns)
                offs = [abs(saying - so) for saying, (said, so) in zip(sayings, turns)]
                under = bottom ** (scale * count)
                for off in offs:
                    under = under * (bottom ** off + top ** off)
                tops = [
                    top ** charged * bottom ** (scale * count - charged) * 2 ** count * bottom ** sum(offs)
                    for charged in tier.hand_charges()
                ]
                self.assertLessEqual(sum(tops), under * head.many)

    def test_a_weigher_as_the_head_on_the_scale_1(self):
        for head, tier, sayings, turns in self.runs(56, 1, self.weighers(1)):
            for charged in tier.hand_charges():
                most = most_errors(head.many, head.top, head.bottom, charged)
                if most is not None:
                    self.assertLessEqual(errors_of(sayings, turns), most)

    def test_a_follower_as_the_head(self):
        for scale in (1, 4):
            def heads(count, source):
                push = tuple(source.randint(0, 9) for hand in range(count))
                return [Follower(count, scale), Follower(count, scale, push)]

            for head, tier, sayings, turns in self.runs(57, scale, heads):
                least = min(push + charged for push, charged in zip(head.push, tier.hand_charges()))
                self.assertLessEqual(errors_of(sayings, turns), most_following(head.push, least))

    def test_a_rounder_as_the_head(self):
        for scale in (1, 4):
            for head, tier, sayings, turns in self.runs(58, scale, lambda count, source: [Rounder(count, scale)]):
                twos = halvings(head.many)
                # Each hand erred at least once in each round that is over, and is charged for it.
                rounds = min(tier.hand_charges())
                self.assertLessEqual(errors_of(sayings, turns), (twos + 1) * rounds + twos)


if __name__ == "__main__":
    unittest.main()
