"""What the tests of several hands need: turns, wrong inputs, and how a refusal is looked at."""

import itertools
import random
import unittest

from heedwise.errors import NoRule, NoTurn
from heedwise.followers import Follower
from heedwise.hands import Hand
from heedwise.rounders import Rounder
from heedwise.shifters import Shifter
from heedwise.tiers import Tier
from heedwise.weighers import Weigher
from heedwise.wholes import middle

GREATEST = 10 ** 60 - 1

NO_MANY = (0, 25, 26, -1, GREATEST, -GREATEST, True, False)
NO_SCALE = (0, 11, 12, -1, GREATEST, -GREATEST, True, False)

FRACTIONS = ((0, 1), (1, 2), (2, 3), (0, 100), (1, 100), (50, 100), (99, 100))
NO_FRACTION = (
    (-1, 2), (-GREATEST, 2), (2, 2), (3, 2), (1, 1), (100, 100), (101, 100), (GREATEST, 100), (0, 101), (1, 101),
    (100, 101), (0, GREATEST), (1, GREATEST), (0, 0), (-1, 0), (0, -1), (-2, -1), (-1, -GREATEST), (True, 2),
    (False, 2), (0, True), (False, True), (True, True), (0, False), (False, 100),
)

# Of Weighers and Meaners: many, scale, top, bottom.
MAKINGS = tuple(
    size + fraction
    for size, fraction in itertools.product(((1, 1), (2, 1), (5, 1), (3, 4), (7, 10), (24, 2)), FRACTIONS)
)

# For two advisers on the scale from 0 to 2: what no turn has said, and what was so in none.
NO_SAID = (
    (0,), (0, 1, 2), (), (-1, 1), (0, 3), (0, GREATEST), (-GREATEST, 0), (True, 1), (0, False), (None, True), (0, "1"),
    (0, ""), (0, "-"), (0, ()), (0, (1,)), (0, [1]), ([], 1), [0, 1], [], "01", "", 2, 0, -1, GREATEST, True, False,
    None, ((0, 1), 1), ((0, 1),),
)
NO_SO = (-1, 3, GREATEST, -GREATEST, True, False, "1", "", (1,), [1], (), [], None)


def drawn_said(source, many, scale, sleep=True):
    whats = list(range(scale + 1))
    # Now and then none sleeps, or nearly all do.
    if sleep:
        whats = whats + [None] * source.choice((0, 1, 3 * len(whats)))
    return tuple(source.choices(whats, k=many))


def drawn_turns(source, many, scale, count=60, sleep=True):
    return tuple((drawn_said(source, many, scale, sleep), source.randint(0, scale)) for turn in range(count))


def hurting_turns(source, hand, count=60, sleep=True):
    """Turns in which the hand is off by as much as can be."""
    runner = hand.anew()
    turns = []
    for number in range(count):
        said = drawn_said(source, hand.many, hand.scale, sleep)
        so = 0 if 2 * runner.say(said) > hand.scale else hand.scale
        runner.hear(said, so)
        turns.append((said, so))
    return tuple(turns)


def having_heard(hand, seed, count=20):
    for said, so in drawn_turns(random.Random(seed), hand.many, hand.scale, count):
        hand.hear(said, so)
    return hand


def hands_alike(many, scale):
    """Each class of hands whom the order of the advisers is nothing to, by several makings."""
    return [
        Hand(many, scale), Weigher(many, scale, 1, 2), Weigher(many, scale, 0, 1), Weigher(many, scale, 99, 100),
        Rounder(many, scale), Shifter(many, scale, 1, 2, 1, 4), Shifter(many, scale, 0, 1, 99, 100),
    ]


def followers_for(many, scale):
    great = tuple(GREATEST - adviser for adviser in range(many))
    return [Follower(many, scale), Follower(many, scale, tuple(range(many))), Follower(many, scale, great)]


def bare_hands(many, scale):
    """Each class of hands but Tier."""
    return hands_alike(many, scale) + followers_for(many, scale)


def tiers_for(many, scale):
    """Tiers with a head of each class, and Tiers within one another."""
    hands = tuple(bare_hands(many, scale))
    tiers = [Tier(hands, head) for head in bare_hands(len(hands), scale)]
    two = (tiers[0], Hand(many, scale), tiers[1])
    second = Tier(two, Tier((Rounder(3, scale), Follower(3, scale, (1, 0, 0))), Weigher(2, scale, 2, 3)))
    third = Tier((second, Follower(many, scale)), Shifter(2, scale, 1, 2, 1, 2))
    return tiers + [second, third, Tier((third,), Hand(1, scale))]


def hands_for(many, scale):
    return bare_hands(many, scale) + tiers_for(many, scale)


def told_of(hand):
    """All that a hand tells of itself."""
    told = [hand.many, hand.scale, hand.heeded()]
    if isinstance(hand, Weigher):
        told.append(hand.weights())
    if isinstance(hand, Follower):
        told.append((hand.push, hand.scores()))
    if isinstance(hand, Rounder):
        told.append((hand.ins(), hand.rounds()))
    if isinstance(hand, Tier):
        told.append(hand.hand_charges())
    for what in range(hand.scale + 1):
        told.append(hand.say((0, what) * (hand.many // 2) + (what,) * (hand.many % 2)))
    return told


def turned(said, order):
    return tuple(said[place] for place in order)


def middle_awake(tops, said):
    """What is said by the weights, as the document tells it."""
    awake = [adviser for adviser, what in enumerate(said) if what is not None]
    return middle(tuple(said[adviser] for adviser in awake), tuple(tops[adviser] for adviser in awake))


def plain_times(weigher, saying, what, so):
    """What the document takes a top (what None: one that sleeps, or the number under) times in a turn."""
    top, bottom, scale = weigher.top, weigher.bottom, weigher.scale
    d = abs(saying - so)
    if what is None:
        return bottom ** scale * (bottom ** d + top ** d)
    away = abs(what - so)
    return top ** away * bottom ** (scale - away) * 2 * bottom ** d


def plain_paper(runner, turns):
    """The paper, drawn from a new Weigher itself, turn by turn."""
    lines = []
    for said, so in turns:
        saying = runner.say(said)
        runner.hear(said, so)
        tops, under = runner.weights()
        lines.append((saying, abs(saying - so), sum(tops), under))
    return tuple(lines)


class HandTest(unittest.TestCase):
    def assert_no_rule(self, make, *making):
        with self.assertRaises(NoRule, msg=making) as caught:
            make(*making)
        self.assertIs(type(caught.exception), NoRule)

    def assert_no_turn(self, call, *handed):
        with self.assertRaises(NoTurn, msg=handed) as caught:
            call(*handed)
        self.assertIs(type(caught.exception), NoTurn)
        self.assertEqual(caught.exception.number, 0)

    def assert_makings_refused(self, make):
        """make takes many and scale."""
        for many in NO_MANY:
            for scale in (1, 10) + NO_SCALE:
                self.assert_no_rule(make, many, scale)
        for scale in NO_SCALE:
            for many in (1, 2, 24):
                self.assert_no_rule(make, many, scale)

    def assert_fractions_refused(self, make):
        """make takes top and bottom."""
        for top, bottom in NO_FRACTION:
            self.assert_no_rule(make, top, bottom)

    def assert_refusals_change_nothing(self, hand, kept):
        """The hand is for two advisers on the scale from 0 to 2; kept tells all that it keeps."""
        before = kept(hand)
        for said in NO_SAID:
            self.assert_no_turn(hand.say, said)
            self.assertEqual(kept(hand), before)
            for so in (0, 1, 2) + NO_SO:
                self.assert_no_turn(hand.hear, said, so)
                self.assertEqual(kept(hand), before)
        for so in NO_SO:
            for said in ((0, 1), (2, None), (None, None)):
                self.assert_no_turn(hand.hear, said, so)
                self.assertEqual(kept(hand), before)

    def assert_asking_changes_nothing(self, hand, kept, saids):
        before = kept(hand)
        for said in saids:
            self.assertEqual(hand.say(said), hand.say(said))
            self.assertEqual(kept(hand), before)

    def assert_the_same_turned_about(self, one, other, turns, order):
        for said, so in turns:
            self.assertEqual(one.say(said), other.say(turned(said, order)))
            self.assertIsNone(one.hear(said, so))
            self.assertIsNone(other.hear(turned(said, order), so))


class WeigherTest(HandTest):
    def assert_weights(self, weigher, tops, under):
        self.assertEqual(weigher.weights(), (tops, under))
        self.assertEqual(weigher.heeded(), tops)
        self.assertEqual(weigher.total(), (sum(tops), under))
        told = (weigher.weights(), weigher.weights()[0], weigher.heeded(), weigher.total())
        self.assertEqual([type(one) for one in told], [tuple] * 4)
        for number in weigher.heeded() + weigher.total() + weigher.weights()[1:]:
            self.assertIs(type(number), int)
