"""What the tests of several hands need: turns, wrong inputs, and how a refusal is looked at."""

import unittest

from heedwise.errors import NoRule, NoTurn
from heedwise.wholes import middle

GREATEST = 10 ** 60 - 1

NO_MANY = (0, 25, 26, -1, GREATEST, -GREATEST, True, False)
NO_SCALE = (0, 11, 12, -1, GREATEST, -GREATEST, True, False)

# For two advisers on the scale from 0 to 2: what no turn has said, and what was so in none.
NO_SAID = (
    (0,), (0, 1, 2), (), (-1, 1), (0, 3), (0, GREATEST), (-GREATEST, 0), (True, 1), (0, False), (None, True), (0, "1"),
    (0, ""), (0, "-"), (0, ()), (0, (1,)), (0, [1]), ([], 1), [0, 1], [], "01", "", 2, 0, -1, GREATEST, True, False,
    None, ((0, 1), 1), ((0, 1),),
)
NO_SO = (-1, 3, GREATEST, -GREATEST, True, False, "1", "", (1,), [1], (), [], None)


def drawn_said(source, many, scale, sleep=True):
    whats = list(range(scale + 1))
    # Now and then none sleeps, or nearly all do.
    if sleep:
        whats = whats + [None] * source.choice((0, 1, 3 * len(whats)))
    return tuple(source.choices(whats, k=many))


def drawn_turns(source, many, scale, count=60, sleep=True):
    return tuple((drawn_said(source, many, scale, sleep), source.randint(0, scale)) for turn in range(count))


def hurting_turns(source, hand, count=60, sleep=True):
    """Turns in which the hand is off by as much as can be."""
    runner = hand.anew()
    turns = []
    for number in range(count):
        said = drawn_said(source, hand.many, hand.scale, sleep)
        so = 0 if 2 * runner.say(said) > hand.scale else hand.scale
        runner.hear(said, so)
        turns.append((said, so))
    return tuple(turns)


def turned(said, order):
    return tuple(said[place] for place in order)


def middle_awake(tops, said):
    """What is said by the weights, as the document tells it."""
    awake = [adviser for adviser, what in enumerate(said) if what is not None]
    return middle(tuple(said[adviser] for adviser in awake), tuple(tops[adviser] for adviser in awake))


def plain_times(weigher, saying, what, so):
    """What the document takes a top (what None: one that sleeps, or the number under) times in a turn."""
    top, bottom, scale = weigher.top, weigher.bottom, weigher.scale
    d = abs(saying - so)
    if what is None:
        return bottom ** scale * (bottom ** d + top ** d)
    away = abs(what - so)
    return top ** away * bottom ** (scale - away) * 2 * bottom ** d


def plain_paper(runner, turns):
    """The paper, drawn from a new Weigher itself, turn by turn."""
    lines = []
    for said, so in turns:
        saying = runner.say(said)
        runner.hear(said, so)
        tops, under = runner.weights()
        lines.append((saying, abs(saying - so), sum(tops), under))
    return tuple(lines)


class HandTest(unittest.TestCase):
    def assert_no_rule(self, make, *making):
        with self.assertRaises(NoRule, msg=making) as caught:
            make(*making)
        self.assertIs(type(caught.exception), NoRule)

    def assert_no_turn(self, call, *handed):
        with self.assertRaises(NoTurn, msg=handed) as caught:
            call(*handed)
        self.assertIs(type(caught.exception), NoTurn)
        self.assertEqual(caught.exception.number, 0)

    def assert_makings_refused(self, make):
        """make takes many and scale."""
        for many in NO_MANY:
            for scale in (1, 10) + NO_SCALE:
                self.assert_no_rule(make, many, scale)
        for scale in NO_SCALE:
            for many in (1, 2, 24):
                self.assert_no_rule(make, many, scale)

    def assert_refusals_change_nothing(self, hand, kept):
        """The hand is for two advisers on the scale from 0 to 2; kept tells all that it keeps."""
        before = kept(hand)
        for said in NO_SAID:
            self.assert_no_turn(hand.say, said)
            self.assertEqual(kept(hand), before)
            for so in (0, 1, 2) + NO_SO:
                self.assert_no_turn(hand.hear, said, so)
                self.assertEqual(kept(hand), before)
        for so in NO_SO:
            for said in ((0, 1), (2, None), (None, None)):
                self.assert_no_turn(hand.hear, said, so)
                self.assertEqual(kept(hand), before)

    def assert_asking_changes_nothing(self, hand, kept, saids):
        before = kept(hand)
        for said in saids:
            self.assertEqual(hand.say(said), hand.say(said))
            self.assertEqual(kept(hand), before)

    def assert_the_same_turned_about(self, one, other, turns, order):
        for said, so in turns:
            self.assertEqual(one.say(said), other.say(turned(said, order)))
            self.assertIsNone(one.hear(said, so))
            self.assertIsNone(other.hear(turned(said, order), so))


class WeigherTest(HandTest):
    def assert_weights(self, weigher, tops, under):
        self.assertEqual(weigher.weights(), (tops, under))
        self.assertEqual(weigher.heeded(), tops)
        self.assertEqual(weigher.total(), (sum(tops), under))
        told = (weigher.weights(), weigher.weights()[0], weigher.heeded(), weigher.total())
        self.assertEqual([type(one) for one in told], [tuple] * 4)
        for number in weigher.heeded() + weigher.total() + weigher.weights()[1:]:
            self.assertIs(type(number), int)
