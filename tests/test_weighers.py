import itertools
import random
import unittest

from samples import MAKINGS, NO_SAID, NO_SO, WeigherTest, middle_awake, plain_times

from heedwise.errors import NoTurn
from heedwise.hands import Hand
from heedwise.turns import erred, own_errors
from heedwise.weighers import Weigher
from heedwise.wholes import halvings


def drawn_turn(source, many, scale):
    whats = [None] + list(range(scale + 1))
    if source.randrange(3) == 0:
        whats = whats[1:]
    return (tuple(source.choices(whats, k=many)), source.randint(0, scale))


def drawn_turns(source, many, scale, count=60):
    return tuple(drawn_turn(source, many, scale) for turn in range(count))


def hurting_turns(source, weigher, count=60):
    """Turns in which the weigher is off by as much as can be: nothing is harder on what is told of its weights."""
    runner = weigher.anew()
    turns = []
    for number in range(count):
        said = drawn_turn(source, weigher.many, weigher.scale)[0]
        so = 0 if 2 * runner.say(said) > weigher.scale else weigher.scale
        runner.hear(said, so)
        turns.append((said, so))
    return tuple(turns)


def rows_for(source, weigher):
    return (drawn_turns(source, weigher.many, weigher.scale), hurting_turns(source, weigher))


class MakingTest(WeigherTest):
    def test_it_is_a_hand(self):
        self.assertEqual(Weigher.__bases__, (Hand,))
        self.assertIsInstance(Weigher(2, 1, 1, 2), Hand)

    def test_fields(self):
        for making in MAKINGS:
            weigher = Weigher(*making)
            self.assertEqual((weigher.many, weigher.scale, weigher.top, weigher.bottom), making)

    def test_at_first(self):
        for making in MAKINGS:
            weigher = Weigher(*making)
            self.assertEqual(weigher.heeded(), (1,) * weigher.many)
            self.assertEqual(weigher.weights(), ((1,) * weigher.many, 1))
            self.assertEqual(weigher.total(), (weigher.many, 1))

    def test_all_fractions(self):
        for bottom in range(1, 101):
            for top in (0, bottom // 2, bottom - 1):
                self.assertEqual((Weigher(1, 1, top, bottom).top, Weigher(1, 1, top, bottom).bottom), (top, bottom))

    def test_refused(self):
        self.assert_fractions_refused(lambda top, bottom: Weigher(2, 1, top, bottom))
        self.assert_makings_refused(lambda many, scale: Weigher(many, scale, 1, 2))
        self.assert_no_rule(Weigher, 0, 0, 2, 2)
        self.assert_no_rule(Weigher, True, True, True, True)


class ByHandTest(WeigherTest):
    def test_on_the_scale_1_with_a_sleeper(self):
        weigher = Weigher(3, 1, 1, 2)
        self.assertEqual(weigher.say((0, 1, None)), 0)
        self.assertIsNone(weigher.hear((0, 1, None), 1))
        self.assert_weights(weigher, (4, 8, 6), 6)
        self.assertEqual(weigher.say((0, 1, 1)), 1)
        self.assertIsNone(weigher.hear((0, 1, 1), 1))
        self.assert_weights(weigher, (8, 32, 24), 24)
        # 32 against 8 and 24: half is enough.
        self.assertEqual(weigher.say((1, 0, 1)), 0)
        self.assertEqual(weigher.say((0, 1, 0)), 0)
        self.assertEqual(weigher.say((0, 1, None)), 1)

    def test_above_the_scale_1(self):
        weigher = Weigher(2, 3, 2, 3)
        self.assertEqual(weigher.say((3, 0)), 0)
        weigher.hear((3, 0), 2)
        self.assert_weights(weigher, (324, 216), 351)
        self.assertEqual(weigher.say((3, 0)), 3)
        weigher.hear((None, 1), 3)
        self.assert_weights(weigher, (113724, 46656), 123201)

    def test_none_awake(self):
        weigher = Weigher(2, 2, 1, 3)
        self.assertEqual(weigher.say((None, None)), 0)
        # It says 0: so its charge is what was so.
        weigher.hear((None, None), 2)
        self.assert_weights(weigher, (90, 90), 90)
        weigher.hear((None, None), 0)
        self.assert_weights(weigher, (1620, 1620), 1620)

    def test_one_adviser(self):
        weigher = Weigher(1, 1, 1, 2)
        weigher.hear((1,), 0)
        self.assert_weights(weigher, (4,), 6)
        weigher.hear((1,), 1)
        self.assert_weights(weigher, (16,), 24)

    def test_top_0(self):
        weigher = Weigher(4, 1, 0, 1)
        weigher.hear((0, 0, 0, 1), 1)
        self.assert_weights(weigher, (0, 0, 0, 2), 1)
        self.assertEqual(weigher.say((0, 0, 0, 1)), 1)
        # Those awake have no weight: each counts 1.
        self.assertEqual(weigher.say((1, 1, 0, None)), 1)
        self.assertEqual(weigher.say((1, 0, None, None)), 0)
        weigher.hear((1, 1, 0, None), 0)
        self.assert_weights(weigher, (0, 0, 0, 2), 1)
        weigher.hear((1, 1, 1, 0), 1)
        self.assert_weights(weigher, (0, 0, 0, 0), 1)
        self.assertEqual(weigher.say((1, 1, 0, 1)), 1)
        self.assertEqual(weigher.say((1, 1, 0, 0)), 0)
        weigher.hear((1, 1, 0, 0), 0)
        self.assert_weights(weigher, (0, 0, 0, 0), 2)

    def test_top_0_above_the_scale_1(self):
        weigher = Weigher(3, 2, 0, 5)
        self.assertEqual(weigher.say((1, 2, 0)), 1)
        weigher.hear((1, 2, 0), 0)
        # Off by 1 the hand: 125 under; just so is taken times 25 times 2 times 5.
        self.assert_weights(weigher, (0, 0, 250), 125)

    def test_top_0_and_no_error(self):
        weigher = Weigher(2, 3, 0, 1)
        weigher.hear((2, 2), 2)
        self.assert_weights(weigher, (2, 2), 2)


class PlainProductsTest(unittest.TestCase):
    def test_weights_are_the_plain_products(self):
        source = random.Random(12)
        for making in MAKINGS:
            weigher = Weigher(*making)
            for turns in rows_for(source, weigher):
                self.assert_plain(weigher.anew(), turns)

    def assert_plain(self, weigher, turns):
        tops = [1] * weigher.many
        under = 1
        for said, so in turns:
            saying = middle_awake(tops, said)
            self.assertEqual(weigher.say(said), saying)
            weigher.hear(said, so)
            tops = [top * plain_times(weigher, saying, what, so) for top, what in zip(tops, said)]
            under = under * plain_times(weigher, saying, None, so)
            self.assertEqual(weigher.weights(), (tuple(tops), under))
            self.assertEqual(weigher.heeded(), tuple(tops))
            self.assertEqual(weigher.total(), (sum(tops), under))

    def test_a_weight_stays_in_turns_that_are_not_its_own(self):
        source = random.Random(13)
        weigher = Weigher(4, 5, 3, 7)
        for said, so in drawn_turns(source, 4, 5):
            before, under_before = weigher.weights()
            weigher.hear(said, so)
            behind, under_behind = weigher.weights()
            for place in range(4):
                if said[place] is None:
                    self.assertEqual(before[place] * under_behind, behind[place] * under_before)

    def test_the_sum_never_rises_nor_is_above_the_count(self):
        source = random.Random(14)
        for making in MAKINGS:
            for turns in rows_for(source, Weigher(*making)):
                self.assert_bound(Weigher(*making), turns)

    def assert_bound(self, weigher, turns):
        tops, under = weigher.total()
        for said, so in turns:
            weigher.hear(said, so)
            tops_behind, under_behind = weigher.total()
            self.assertLessEqual(tops_behind, under_behind * weigher.many)
            self.assertLessEqual(tops_behind * under, tops * under_behind)
            self.assertLessEqual(max(weigher.heeded()), under_behind * weigher.many)
            tops, under = tops_behind, under_behind

    def test_fraction_0_and_an_adviser_that_never_errs(self):
        source = random.Random(15)
        for many in (1, 2, 3, 8, 16, 24):
            for bottom in (1, 100):
                turns = self.turns_with_a_true_one(source, Weigher(many, 1, 0, bottom))
                runner = Weigher(many, 1, 0, bottom)
                sayings = []
                for said, so in turns:
                    sayings.append(runner.say(said))
                    runner.hear(said, so)
                self.assertEqual(erred(many, turns)[0], 0)
                self.assertLessEqual(own_errors(many, turns, tuple(sayings))[0], halvings(many))

    def turns_with_a_true_one(self, source, weigher):
        """The first adviser is right where it is awake, else as drawn; what was so goes against the hand."""
        runner = weigher.anew()
        turns = []
        for number in range(60):
            others = drawn_turn(source, weigher.many, 1)[0][1:]
            so = 1 - runner.say((None,) + others)
            said = (source.choice((None, so, so)),) + others
            runner.hear(said, so)
            turns.append((said, so))
        return tuple(turns)

    def test_the_order_of_the_advisers_changes_nothing_in_what_it_says(self):
        source = random.Random(16)
        for making in ((4, 1, 1, 2), (4, 6, 2, 3), (4, 2, 0, 1)):
            turns = drawn_turns(source, 4, making[1], 20)
            for order in itertools.permutations(range(4)):
                one, other = Weigher(*making), Weigher(*making)
                for said, so in turns:
                    turned = tuple(said[place] for place in order)
                    self.assertEqual(one.say(said), other.say(turned))
                    one.hear(said, so)
                    other.hear(turned, so)


class KeptTest(unittest.TestCase):
    def setUp(self):
        self.weigher = Weigher(2, 2, 1, 3)
        self.weigher.hear((2, 0), 1)
        self.weigher.hear((None, 0), 2)
        self.kept = self.weigher.weights()

    def assert_kept(self):
        self.assertEqual(self.weigher.weights(), self.kept)
        self.assertEqual(self.weigher.heeded(), self.kept[0])
        self.assertEqual(self.weigher.total(), (sum(self.kept[0]), self.kept[1]))
        self.assertEqual(self.weigher.say((2, 0)), 2)

    def assert_refused(self, call, *handed):
        with self.assertRaises(NoTurn, msg=handed) as caught:
            call(*handed)
        self.assertIs(type(caught.exception), NoTurn)
        self.assertEqual(caught.exception.number, 0)
        self.assert_kept()

    def test_asking_changes_nothing(self):
        for said in itertools.product((None, 0, 1, 2), repeat=2):
            self.assertEqual(self.weigher.say(said), self.weigher.say(said))
            self.assert_kept()

    def test_what_is_refused_changes_nothing(self):
        for said in NO_SAID:
            self.assert_refused(self.weigher.say, said)
            for so in (0, 1, 2) + NO_SO:
                self.assert_refused(self.weigher.hear, said, so)
        for so in NO_SO:
            for said in ((0, 1), (2, None), (None, None)):
                self.assert_refused(self.weigher.hear, said, so)

    def test_two_weighers_share_nothing(self):
        other = Weigher(2, 2, 1, 3)
        self.assertEqual(other.weights(), ((1, 1), 1))
        other.hear((0, 0), 2)
        self.assert_kept()
        self.weigher.hear((1, 1), 1)
        self.assertEqual(other.weights(), ((18, 18), 90))

    def test_what_was_told_stays(self):
        told = self.weigher.weights()
        heeded = self.weigher.heeded()
        self.weigher.hear((0, 1), 2)
        self.assertEqual((told, heeded), (self.kept, self.kept[0]))
        self.assertNotEqual(self.weigher.weights(), told)

    def test_anew(self):
        other = self.weigher.anew()
        self.assertIs(type(other), Weigher)
        self.assertEqual((other.many, other.scale, other.top, other.bottom), (2, 2, 1, 3))
        self.assertEqual(other.weights(), ((1, 1), 1))
        self.assert_kept()
        other.hear((2, 0), 1)
        other.hear((None, 0), 2)
        self.assertEqual(other.weights(), self.kept)
        other.hear((0, 2), 1)
        self.assert_kept()
        self.assertEqual(other.anew().weights(), ((1, 1), 1))


if __name__ == "__main__":
    unittest.main()
