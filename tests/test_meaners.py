import itertools
import random
import unittest

from samples import MAKINGS, NO_SAID, NO_SO, HandTest, drawn_turns, turned

from heedwise.hands import Hand
from heedwise.meaners import Meaner

# For two advisers on the scale from 0 to 2: what no turn for a Meaner has said.
SLEEPERS = ((None, 1), (0, None), (None, None))


def kept(meaner):
    return (meaner.weights(), meaner.mean((2, 0)), meaner.mean((1, 2)))


def hurting_turns(source, meaner, count=60):
    """Turns in which the mean is off by as much as can be."""
    runner = meaner.anew()
    turns = []
    for number in range(count):
        said = tuple(source.randint(0, runner.scale) for adviser in range(runner.many))
        above, below = runner.mean(said)
        so = 0 if 2 * above > runner.scale * below else runner.scale
        runner.hear(said, so)
        turns.append((said, so))
    return tuple(turns)


class MeanerTest(HandTest):
    def assert_weights(self, meaner, tops, under):
        told = meaner.weights()
        self.assertEqual(told, (tops, under))
        self.assertEqual((type(told), type(told[0]), type(told[1])), (tuple, tuple, int))
        self.assertEqual([type(top) for top in told[0]], [int] * len(tops))

    def assert_mean(self, meaner, said, above, below):
        told = meaner.mean(said)
        self.assertEqual(told, (above, below))
        self.assertEqual((type(told), type(told[0]), type(told[1])), (tuple, int, int))

    def rows(self, seed):
        source = random.Random(seed)
        for making in MAKINGS:
            yield Meaner(*making), drawn_turns(source, making[0], making[1], sleep=False)
            yield Meaner(*making), hurting_turns(source, Meaner(*making))


class MakingTest(MeanerTest):
    def test_it_is_no_hand(self):
        self.assertNotIsInstance(Meaner(2, 1, 1, 2), Hand)
        self.assertFalse(hasattr(Meaner(2, 1, 1, 2), "say"))

    def test_at_first(self):
        for making in MAKINGS:
            self.assert_weights(Meaner(*making), (1,) * making[0], 1)
            self.assert_mean(Meaner(*making), (making[1],) * making[0], making[0] * making[1], making[0])

    def test_all_fractions(self):
        for bottom in range(1, 101):
            for top in sorted({0, bottom // 2, bottom - 1}):
                meaner = Meaner(1, 1, top, bottom)
                meaner.hear((0,), 1)
                self.assert_weights(meaner, (top,), bottom)

    def test_refused(self):
        self.assert_makings_refused(lambda many, scale: Meaner(many, scale, 1, 2))
        self.assert_fractions_refused(lambda top, bottom: Meaner(2, 1, top, bottom))
        self.assert_no_rule(Meaner, 0, 0, 2, 2)
        self.assert_no_rule(Meaner, True, True, True, True)


class ByHandTest(MeanerTest):
    def test_above_the_scale_1(self):
        meaner = Meaner(2, 2, 1, 3)
        self.assert_mean(meaner, (2, 0), 2, 2)
        # Taken times 6 less 2 for each one that they are off by.
        self.assertIsNone(meaner.hear((2, 0), 1))
        self.assert_weights(meaner, (4, 4), 6)
        meaner.hear((2, 1), 2)
        self.assert_weights(meaner, (24, 16), 36)
        self.assert_mean(meaner, (0, 2), 32, 40)
        self.assert_mean(meaner, (2, 0), 48, 40)
        meaner.hear((0, 2), 0)
        self.assert_weights(meaner, (144, 32), 216)
        self.assert_mean(meaner, (1, 2), 208, 176)
        self.assert_mean(meaner, (0, 0), 0, 176)

    def test_on_the_scale_1(self):
        meaner = Meaner(3, 1, 2, 5)
        meaner.hear((0, 1, 0), 0)
        self.assert_weights(meaner, (5, 2, 5), 5)
        meaner.hear((1, 1, 0), 1)
        self.assert_weights(meaner, (25, 10, 10), 25)
        self.assert_mean(meaner, (1, 0, 1), 35, 45)

    def test_one_adviser(self):
        meaner = Meaner(1, 10, 99, 100)
        self.assert_mean(meaner, (7,), 7, 1)
        meaner.hear((10,), 0)
        self.assert_weights(meaner, (990,), 1000)
        self.assert_mean(meaner, (7,), 6930, 990)

    def test_top_0(self):
        meaner = Meaner(3, 2, 0, 5)
        meaner.hear((0, 1, 2), 0)
        self.assert_weights(meaner, (10, 5, 0), 10)
        self.assert_mean(meaner, (1, 2, 2), 20, 15)
        meaner.hear((1, 1, 1), 1)
        self.assert_weights(meaner, (100, 50, 0), 100)

    def test_all_tops_0(self):
        meaner = Meaner(2, 1, 0, 1)
        meaner.hear((1, 0), 1)
        self.assert_weights(meaner, (1, 0), 1)
        self.assert_mean(meaner, (0, 1), 0, 1)
        meaner.hear((0, 0), 1)
        self.assert_weights(meaner, (0, 0), 1)
        # Each counts 1 in the mean; the tops themselves stay 0.
        self.assert_mean(meaner, (1, 0), 1, 2)
        self.assert_mean(meaner, (1, 1), 2, 2)
        meaner.hear((1, 1), 1)
        self.assert_weights(meaner, (0, 0), 1)
        meaner = Meaner(3, 10, 0, 2)
        meaner.hear((10, 10, 10), 0)
        self.assert_weights(meaner, (0, 0, 0), 20)
        self.assert_mean(meaner, (3, 10, 9), 22, 3)
        meaner.hear((10, 10, 10), 10)
        self.assert_weights(meaner, (0, 0, 0), 400)


class DrawnTest(MeanerTest):
    def test_turn_by_turn(self):
        for meaner, turns in self.rows(60):
            tops, under = (1,) * meaner.many, 1
            for said, so in turns:
                counts = tops if any(tops) else (1,) * meaner.many
                above = sum(count * what for count, what in zip(counts, said))
                self.assert_mean(meaner, said, above, sum(counts))
                meaner.hear(said, so)
                whole, less = meaner.scale * meaner.bottom, meaner.bottom - meaner.top
                tops = tuple(top * (whole - abs(what - so) * less) for top, what in zip(tops, said))
                under = under * whole
                self.assert_weights(meaner, tops, under)

    def test_the_sum_of_the_tops_behind_a_turn(self):
        for meaner, turns in self.rows(61):
            for said, so in turns:
                tops = meaner.weights()[0]
                off = sum(top * abs(what - so) for top, what in zip(tops, said))
                meaner.hear(said, so)
                ahead = meaner.scale * meaner.bottom * sum(tops)
                self.assertEqual(sum(meaner.weights()[0]), ahead - (meaner.bottom - meaner.top) * off)

    def test_by_how_much_the_mean_is_off(self):
        for meaner, turns in self.rows(62):
            for said, so in turns:
                tops = meaner.weights()[0]
                above, below = meaner.mean(said)
                if any(tops):
                    self.assertEqual(below, sum(tops))
                    off = sum(top * abs(what - so) for top, what in zip(tops, said))
                    self.assertLessEqual(abs(above - so * below), off)
                meaner.hear(said, so)

    def test_the_order_of_the_advisers_changes_nothing(self):
        source = random.Random(63)
        for order in itertools.permutations(range(4)):
            one, other = Meaner(4, 3, 1, 2), Meaner(4, 3, 1, 2)
            for said, so in drawn_turns(source, 4, 3, 10, sleep=False):
                self.assertEqual(one.mean(said), other.mean(turned(said, order)))
                one.hear(said, so)
                other.hear(turned(said, order), so)


class KeptTest(MeanerTest):
    def setUp(self):
        self.meaner = Meaner(2, 2, 1, 3)
        self.meaner.hear((2, 1), 2)
        self.kept = kept(self.meaner)

    def assert_refused(self, meaner, call, *handed):
        before = kept(meaner)
        self.assert_no_turn(call, *handed)
        self.assertEqual(kept(meaner), before)

    def test_asking_changes_nothing(self):
        for said in itertools.product(range(3), repeat=2):
            self.assertEqual(self.meaner.mean(said), self.meaner.mean(said))
            self.assertEqual(kept(self.meaner), self.kept)

    def test_what_is_refused_changes_nothing(self):
        for meaner in (self.meaner, Meaner(2, 2, 1, 3), Meaner(2, 2, 0, 1)):
            for said in NO_SAID + SLEEPERS:
                self.assert_refused(meaner, meaner.mean, said)
                for so in (0, 1, 2) + NO_SO:
                    self.assert_refused(meaner, meaner.hear, said, so)
            for said, so in itertools.product(((0, 1), (2, 2)), NO_SO):
                self.assert_refused(meaner, meaner.hear, said, so)

    def test_a_sleeper_in_each_place(self):
        meaner = Meaner(24, 10, 1, 2)
        for place in range(24):
            said = (3,) * place + (None,) + (3,) * (23 - place)
            self.assert_no_turn(meaner.mean, said)
            self.assert_no_turn(meaner.hear, said, 3)
        self.assert_weights(meaner, (1,) * 24, 1)

    def test_two_meaners_share_nothing(self):
        other = Meaner(2, 2, 1, 3)
        self.assert_weights(other, (1, 1), 1)
        other.hear((2, 0), 1)
        self.assertEqual(kept(self.meaner), self.kept)
        self.meaner.hear((1, 1), 1)
        self.assert_weights(other, (4, 4), 6)

    def test_what_was_told_stays(self):
        told = kept(self.meaner)
        self.meaner.hear((0, 2), 0)
        self.assertEqual(told, self.kept)
        self.assert_weights(self.meaner, (36, 8), 36)

    def test_anew(self):
        other = self.meaner.anew()
        self.assertIs(type(other), Meaner)
        self.assertIsNot(other, self.meaner)
        self.assert_weights(other, (1, 1), 1)
        self.assertEqual(kept(self.meaner), self.kept)
        other.hear((2, 1), 2)
        self.assertEqual(kept(other), self.kept)
        other.hear((0, 2), 0)
        self.assertEqual(kept(self.meaner), self.kept)
        self.assert_weights(other.anew(), (1, 1), 1)
        other = Meaner(3, 10, 7, 9).anew()
        other.hear((10, 0, 4), 4)
        # Taken times 90 less 2 for each one that they are off by.
        self.assert_weights(other, (78, 82, 90), 90)


if __name__ == "__main__":
    unittest.main()
