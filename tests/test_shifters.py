import itertools
import random
import unittest

from samples import (
    GREATEST, WeigherTest, drawn_turns, hurting_turns, middle_awake, plain_paper, plain_times,
)

from heedwise.best import best_row
from heedwise.errors import NoTurn
from heedwise.hands import Hand
from heedwise.papers import paper, ran
from heedwise.shifters import Shifter
from heedwise.weighers import Weigher

RULES = ((1, 2, 1, 2), (0, 1, 1, 10), (2, 3, 99, 100), (99, 100, 1, 100), (0, 100, 50, 100), (1, 100, 2, 3))

# many, scale, top, bottom, share, parts
MAKINGS = tuple(
    size + rule for size, rule in itertools.product(((1, 1), (2, 1), (5, 1), (3, 4), (6, 10), (24, 2)), RULES)
)


def kept(shifter):
    return (shifter.weights(), shifter.total(), shifter.heeded(), shifter.say((2, 0)), shifter.say((None, 1)))


class MakingTest(WeigherTest):
    def test_it_is_a_weigher(self):
        self.assertEqual(Shifter.__bases__, (Weigher,))
        self.assertIsInstance(Shifter(2, 1, 1, 2, 1, 2), Hand)

    def test_at_first(self):
        for making in MAKINGS:
            shifter = Shifter(*making)
            fields = (shifter.many, shifter.scale, shifter.top, shifter.bottom, shifter.share, shifter.parts)
            self.assertEqual(fields, making)
            self.assert_weights(shifter, (1,) * shifter.many, 1)

    def test_all_shares(self):
        for parts in range(2, 101):
            for share in sorted({1, (parts + 1) // 2, parts - 1}):
                shifter = Shifter(1, 1, 0, 1, share, parts)
                self.assertEqual((shifter.share, shifter.parts), (share, parts))

    def test_refused_shares(self):
        wrong = (
            (0, 2), (-1, 2), (-GREATEST, 2), (2, 2), (3, 2), (100, 100), (101, 100), (GREATEST, 100), (1, 1), (0, 1),
            (1, 101), (100, 101), (50, 1000), (1, GREATEST), (1, 0), (0, 0), (-1, 0), (1, -1), (-2, -1),
            (-1, -GREATEST), (True, 2), (False, 2), (True, 100), (1, True), (0, True), (1, False), (True, True),
            (False, True),
        )
        for share, parts in wrong:
            self.assert_no_rule(Shifter, 2, 1, 1, 2, share, parts)

    def test_refused_as_a_weigher(self):
        self.assert_makings_refused(lambda many, scale: Shifter(many, scale, 1, 2, 1, 2))
        self.assert_fractions_refused(lambda top, bottom: Shifter(2, 1, top, bottom, 1, 2))
        self.assert_no_rule(Shifter, 0, 0, 2, 2, 2, 2)
        self.assert_no_rule(Shifter, True, True, True, True, True, True)


class ByHandTest(WeigherTest):
    def test_on_the_scale_1_with_a_sleeper(self):
        shifter = Shifter(3, 1, 1, 2, 1, 4)
        self.assertEqual(shifter.say((0, 1, None)), 0)
        # As a Weigher's they are (4, 8, 6) over 6: times 9, and 18 is added.
        self.assertIsNone(shifter.hear((0, 1, None), 1))
        self.assert_weights(shifter, (54, 90, 72), 72)
        self.assertEqual(shifter.say((0, 1, 1)), 1)
        # (108, 360, 288) over 288.
        shifter.hear((0, 1, 1), 1)
        self.assert_weights(shifter, (1728, 3996, 3348), 3456)

    def test_above_the_scale_1(self):
        shifter = Shifter(2, 3, 2, 3, 1, 3)
        # (324, 216) over 351: times 4, and 540 is added.
        shifter.hear((3, 0), 2)
        self.assert_weights(shifter, (1836, 1404), 2106)
        # (644436, 303264) over 739206.
        shifter.hear((None, 1), 3)
        self.assert_weights(shifter, (3525444, 2160756), 4435236)

    def test_one_adviser(self):
        shifter = Shifter(1, 1, 1, 2, 1, 2)
        shifter.hear((1,), 0)
        self.assert_weights(shifter, (8,), 12)
        shifter.hear((1,), 1)
        self.assert_weights(shifter, (64,), 96)
        shifter.hear((None,), 0)
        self.assert_weights(shifter, (512,), 768)

    def test_none_awake(self):
        shifter = Shifter(2, 2, 1, 3, 2, 5)
        self.assertEqual(shifter.say((None, None)), 0)
        shifter.hear((None, None), 2)
        self.assert_weights(shifter, (900, 900), 900)

    def test_top_0(self):
        shifter = Shifter(4, 1, 0, 1, 1, 10)
        # (0, 0, 0, 2) over 1: times 36, and 2 is added.
        shifter.hear((0, 0, 0, 1), 1)
        self.assert_weights(shifter, (2, 2, 2, 74), 40)
        self.assertEqual(shifter.say((0, 0, 0, 1)), 1)
        self.assertEqual(shifter.say((1, 1, 1, 0)), 0)
        # (4, 4, 4, 0) over 40.
        shifter.hear((1, 1, 1, 0), 1)
        self.assert_weights(shifter, (156, 156, 156, 12), 1600)
        self.assertEqual(shifter.say((1, 1, 1, 0)), 1)
        # Where all err, nothing is left to give away.
        shifter.hear((1, 1, 1, 1), 0)
        self.assert_weights(shifter, (0, 0, 0, 0), 64000)
        self.assertEqual(shifter.say((1, 1, 1, 0)), 1)
        self.assertEqual(shifter.say((1, 1, 0, 0)), 0)
        shifter.hear((0, 1, None, 1), 1)
        self.assert_weights(shifter, (0, 0, 0, 0), 5120000)

    def test_one_that_was_bad_comes_back_sooner_than_with_a_weigher(self):
        weigher, shifter = Weigher(2, 1, 1, 2), Shifter(2, 1, 1, 2, 1, 4)
        for number in range(20):
            weigher.hear((0, 1), 0)
            shifter.hear((0, 1), 0)
        # The second one has then a bit more than a quarter of the first one's weight.
        for number in range(2):
            self.assertEqual((weigher.say((0, 1)), shifter.say((0, 1))), (0, 0))
            weigher.hear((0, 1), 1)
            shifter.hear((0, 1), 1)
        self.assertEqual((weigher.say((0, 1)), shifter.say((0, 1))), (0, 1))


class DrawnTest(WeigherTest):
    def rows(self, seed):
        source = random.Random(seed)
        for making in MAKINGS:
            yield Shifter(*making), drawn_turns(source, making[0], making[1])
            yield Shifter(*making), hurting_turns(source, Shifter(*making))

    def test_weights_are_as_told(self):
        for shifter, turns in self.rows(25):
            tops, under = shifter.weights()
            for said, so in turns:
                saying = middle_awake(tops, said)
                self.assertEqual(shifter.say(said), saying)
                shifter.hear(said, so)
                tops = [top * plain_times(shifter, saying, what, so) for top, what in zip(tops, said)]
                whole = sum(tops)
                tops = [
                    top * shifter.many * (shifter.parts - shifter.share) + shifter.share * whole for top in tops
                ]
                under = under * plain_times(shifter, saying, None, so) * shifter.many * shifter.parts
                self.assert_weights(shifter, tuple(tops), under)

    def test_the_share_keeps_the_sum_over_the_number_under(self):
        for shifter, turns in self.rows(26):
            for said, so in turns:
                tops, under = shifter.weights()
                saying = shifter.say(said)
                weighed = sum(top * plain_times(shifter, saying, what, so) for top, what in zip(tops, said))
                under_weighed = under * plain_times(shifter, saying, None, so)
                shifter.hear(said, so)
                whole_behind, under_behind = shifter.total()
                self.assertEqual(whole_behind * under_weighed, weighed * under_behind)

    def test_the_sum_never_rises_nor_is_above_the_count(self):
        for shifter, turns in self.rows(27):
            whole, under = shifter.total()
            for said, so in turns:
                shifter.hear(said, so)
                whole_behind, under_behind = shifter.total()
                self.assertLessEqual(whole_behind, under_behind * shifter.many)
                self.assertLessEqual(whole_behind * under, whole * under_behind)
                whole, under = whole_behind, under_behind

    def test_each_row_of_advisers_is_bound(self):
        source = random.Random(28)
        for shifter, turns in self.rows(29):
            runner = shifter.anew()
            factors = []
            for said, so in turns:
                saying = runner.say(said)
                factors.append([plain_times(shifter, saying, what, so) for what in said])
                runner.hear(said, so)
            for row in self.advisers(source, shifter.many, factors):
                self.assert_bound(runner, factors, row)
            for changes in (0, 1, 3, 10):
                self.assert_bound(runner, factors, best_row(shifter.many, turns, changes)[0])

    def advisers(self, source, many, factors):
        """Rows: of one adviser, drawn, changing seldom, and of those whose tops were taken times most."""
        yield [source.randrange(many)] * len(factors)
        yield [source.randrange(many) for factor in factors]
        yield [factor.index(max(factor)) for factor in factors]
        seldom = [source.randrange(many)]
        while len(seldom) < len(factors):
            seldom.append(source.choice([seldom[-1]] * 9 + [source.randrange(many)]))
        yield seldom

    def assert_bound(self, shifter, factors, row):
        changes = len([place for place in range(1, len(row)) if row[place] != row[place - 1]])
        product = (shifter.many * (shifter.parts - shifter.share)) ** (len(row) - changes) * shifter.share ** changes
        for factor, adviser in zip(factors, row):
            product = product * factor[adviser]
        self.assertLessEqual(product, shifter.weights()[1] * shifter.many)

    def test_the_order_of_the_advisers_changes_nothing(self):
        source = random.Random(30)
        for making in ((4, 1, 1, 2, 1, 4), (4, 6, 2, 3, 1, 10), (4, 2, 0, 1, 1, 2)):
            turns = drawn_turns(source, 4, making[1], 20)
            for order in itertools.permutations(range(4)):
                self.assert_the_same_turned_about(Shifter(*making), Shifter(*making), turns, order)


class KeptTest(WeigherTest):
    def setUp(self):
        self.shifter = Shifter(2, 2, 1, 3, 1, 5)
        self.shifter.hear((2, 0), 1)
        self.shifter.hear((None, 0), 2)
        self.kept = kept(self.shifter)

    def test_asking_changes_nothing(self):
        self.assert_asking_changes_nothing(self.shifter, kept, itertools.product((None, 0, 1, 2), repeat=2))

    def test_what_is_refused_changes_nothing(self):
        self.assert_refusals_change_nothing(self.shifter, kept)
        self.assertEqual(kept(self.shifter), self.kept)

    def test_two_shifters_share_nothing(self):
        other = Shifter(2, 2, 1, 3, 1, 5)
        self.assert_weights(other, (1, 1), 1)
        other.hear((0, 0), 2)
        self.assertEqual(kept(self.shifter), self.kept)
        self.shifter.hear((1, 1), 1)
        # (18, 18) over 90: times 8, and 36 is added.
        self.assert_weights(other, (180, 180), 900)

    def test_what_was_told_stays(self):
        told = kept(self.shifter)
        self.shifter.hear((0, 1), 2)
        self.assertEqual(told, self.kept)
        self.assertNotEqual(self.shifter.weights(), self.kept[0])

    def test_anew(self):
        other = self.shifter.anew()
        self.assertIs(type(other), Shifter)
        fields = (other.many, other.scale, other.top, other.bottom, other.share, other.parts)
        self.assertEqual(fields, (2, 2, 1, 3, 1, 5))
        self.assert_weights(other, (1, 1), 1)
        self.assertEqual(kept(self.shifter), self.kept)
        other.hear((2, 0), 1)
        other.hear((None, 0), 2)
        self.assertEqual(kept(other), self.kept)
        other.hear((0, 2), 1)
        self.assertEqual(kept(self.shifter), self.kept)
        self.assert_weights(other.anew(), (1, 1), 1)

    def test_paper_and_ran(self):
        shifter = Shifter(3, 1, 1, 2, 1, 4)
        turns = (((0, 1, None), 1), ((0, 1, 1), 1))
        for again in range(3):
            self.assertEqual(ran(shifter, turns), (0, 1))
            self.assertEqual(paper(shifter, turns), ((0, 1, 216, 72), (1, 0, 9072, 3456)))
            self.assertEqual((paper(shifter, ()), ran(shifter, ())), ((), ()))
            before = shifter.weights()
            for call in (paper, ran):
                with self.assertRaises(NoTurn) as caught:
                    call(shifter, turns + (((0, 1, 2), 1),))
                self.assertEqual(caught.exception.number, 2)
            self.assertEqual(shifter.weights(), before)
            shifter.hear((1, 0, 1), 0)

    def test_paper_turn_by_turn(self):
        source = random.Random(31)
        for making in MAKINGS:
            turns = drawn_turns(source, making[0], making[1], 20)
            lines = plain_paper(Shifter(*making), turns)
            self.assertEqual(paper(Shifter(*making), turns), lines)
            self.assertEqual(ran(Shifter(*making), turns), tuple(line[0] for line in lines))


if __name__ == "__main__":
    unittest.main()
