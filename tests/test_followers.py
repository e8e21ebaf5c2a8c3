import itertools
import random
import unittest

from samples import GREATEST, HandTest, drawn_turns, hurting_turns, turned

from heedwise.errors import NoTurn
from heedwise.followers import Follower, most_following
from heedwise.hands import Hand
from heedwise.papers import ran
from heedwise.turns import charges

# For two advisers: what is no push.
NO_PUSH = (
    (), (0,), (0, 0, 0), (0, 0, None), (-1, 0), (0, -1), (0, -GREATEST), (GREATEST + 1, 0), (0, GREATEST + 1),
    (0, 10 ** 100), (True, 0), (0, False), (0, True), (None, 0), (0, None), (None, None), ("0", 0), (0, ""), (0, "1"),
    ((), 0), (0, (0,)), ((0, 0), 0), ((0, 0),), (0, [0]), ([], 0),
)

SAIDS = tuple(itertools.product((None, 0, 1, 2), repeat=3))


def plain_saying(scores, said):
    """The words of the document, adviser by adviser."""
    best = None
    for adviser, what in enumerate(said):
        if what is not None and (best is None or scores[adviser] < scores[best]):
            best = adviser
    return 0 if best is None else said[best]


def plain_heeded(scores):
    told = [0] * len(scores)
    for adviser, score in enumerate(scores):
        if score == min(scores):
            told[adviser] = 1
            return tuple(told)


def drawn_push(source, many, most):
    return tuple(source.randint(0, most) for adviser in range(many))


def kept(follower):
    return (follower.scores(), follower.push, follower.heeded(), follower.say((2, 0)), follower.say((None, 1)))


class MakingTest(HandTest):
    def test_it_is_a_hand(self):
        self.assertEqual(Follower.__bases__, (Hand,))
        self.assertIsInstance(Follower(2, 1), Hand)

    def assert_made(self, follower, many, scale, push):
        self.assertEqual((follower.many, follower.scale, follower.push), (many, scale, push))
        self.assertEqual(follower.scores(), push)
        for told in (follower.push, follower.scores(), follower.heeded()):
            self.assertIs(type(told), tuple)
            self.assertEqual([type(one) for one in told], [int] * many)

    def test_fields(self):
        for many, scale in itertools.product((1, 2, 3, 24), (1, 2, 10)):
            nothing = (0,) * many
            self.assert_made(Follower(many, scale), many, scale, nothing)
            self.assert_made(Follower(many, scale, None), many, scale, nothing)
            self.assert_made(Follower(many, scale, push=None), many, scale, nothing)
            self.assert_made(Follower(many, scale, nothing), many, scale, nothing)
            rising = tuple(range(many))
            self.assert_made(Follower(many, scale, rising), many, scale, rising)
            self.assert_made(Follower(many, scale, push=rising), many, scale, rising)
            great = (GREATEST,) * many
            self.assert_made(Follower(many, scale, great), many, scale, great)

    def test_refused_advisers_and_scales(self):
        self.assert_makings_refused(Follower)
        for push in (None, (), (0,), (0, 0), (True,)):
            self.assert_makings_refused(lambda many, scale: Follower(many, scale, push))

    def test_refused_pushes(self):
        for push in NO_PUSH:
            self.assert_no_rule(Follower, 2, 1, push)
            self.assert_no_rule(Follower, 2, 10, push)

    def test_refused_in_each_place(self):
        for wrong in (-1, GREATEST + 1, True, False, None, "0", (0,), ()):
            for place in range(24):
                self.assert_no_rule(Follower, 24, 1, (0,) * place + (wrong,) + (GREATEST,) * (23 - place))
            self.assert_no_rule(Follower, 1, 1, (wrong,))

    def test_one_too_few_or_too_many(self):
        for many in range(1, 25):
            self.assertEqual(Follower(many, 1, (1,) * many).push, (1,) * many)
            for other in (0, many - 1, many + 1):
                self.assert_no_rule(Follower, many, 1, (1,) * other)


class ScoresTest(HandTest):
    def test_on_the_scale_1_with_sleepers(self):
        follower = Follower(3, 1)
        self.assertEqual(follower.scores(), (0, 0, 0))
        self.assertIsNone(follower.hear((1, 0, None), 1))
        self.assertEqual(follower.scores(), (0, 1, 0))
        follower.hear((0, 0, 0), 1)
        self.assertEqual(follower.scores(), (1, 2, 1))
        follower.hear((None, None, None), 1)
        self.assertEqual(follower.scores(), (1, 2, 1))
        follower.hear((1, None, 1), 0)
        self.assertEqual(follower.scores(), (2, 2, 2))

    def test_above_the_scale_1(self):
        follower = Follower(3, 10, (5, 0, 7))
        follower.hear((10, 3, None), 4)
        self.assertEqual(follower.scores(), (11, 1, 7))
        follower.hear((0, 10, 7), 7)
        self.assertEqual(follower.scores(), (18, 4, 7))
        self.assertEqual(follower.push, (5, 0, 7))

    def test_great_pushes(self):
        follower = Follower(2, 10, (GREATEST, GREATEST - 3))
        self.assertEqual(follower.say((1, 2)), 2)
        follower.hear((0, 10), 0)
        self.assertEqual(follower.scores(), (GREATEST, GREATEST + 7))
        self.assertEqual(follower.say((1, 2)), 1)
        follower.hear((10, 0), 0)
        self.assertEqual(follower.scores(), (GREATEST + 10, GREATEST + 7))
        self.assertEqual(follower.heeded(), (0, 1))

    def test_one_adviser(self):
        follower = Follower(1, 10, (3,))
        for number in range(11):
            self.assertEqual(follower.say((number,)), number)
        self.assertEqual(follower.say((None,)), 0)
        follower.hear((9,), 2)
        self.assertEqual((follower.scores(), follower.heeded()), ((10,), (1,)))

    def test_behind_each_turn(self):
        source = random.Random(18)
        for many, scale in itertools.product((1, 2, 5, 24), (1, 3, 10)):
            for most in (0, 3, 40, GREATEST):
                push = drawn_push(source, many, most)
                self.assert_turn_by_turn(Follower(many, scale, push), drawn_turns(source, many, scale))

    def assert_turn_by_turn(self, follower, turns):
        for number, (said, so) in enumerate(turns):
            grown = charges(follower.many, turns[:number])
            scores = tuple(one + other for one, other in zip(follower.push, grown))
            self.assertEqual(follower.scores(), scores)
            self.assertEqual(follower.heeded(), plain_heeded(scores))
            self.assertEqual(follower.say(said), plain_saying(scores, said))
            follower.hear(said, so)


class SayTest(HandTest):
    def test_the_first_of_several(self):
        follower = Follower(3, 10)
        self.assertEqual(follower.say((7, 3, 5)), 7)
        self.assertEqual(follower.say((None, 3, 5)), 3)
        self.assertEqual(follower.say((None, 5, 3)), 5)
        self.assertEqual(follower.heeded(), (1, 0, 0))
        follower = Follower(4, 10, (2, 1, 3, 1))
        self.assertEqual(follower.say((9, 6, 0, 4)), 6)
        self.assertEqual(follower.say((9, 4, 0, 6)), 4)
        self.assertEqual(follower.heeded(), (0, 1, 0, 0))

    def test_the_least_of_all_sleeps(self):
        follower = Follower(4, 10, (2, 1, 3, 1))
        self.assertEqual(follower.say((9, None, 0, 4)), 4)
        self.assertEqual(follower.say((9, None, 0, None)), 9)
        self.assertEqual(follower.say((None, None, 8, None)), 8)
        self.assertEqual(follower.heeded(), (0, 1, 0, 0))

    def test_none_awake(self):
        for many in (1, 2, 24):
            follower = Follower(many, 10, tuple(range(many)))
            self.assertEqual(follower.say((None,) * many), 0)
            self.assertIs(type(follower.say((None,) * many)), int)

    def test_it_is_no_middle(self):
        self.assertEqual(Follower(3, 1, (0, 1, 1)).say((1, 0, 0)), 1)
        self.assertEqual(Follower(3, 1, (1, 1, 0)).say((0, 0, 1)), 1)

    def test_another_one_becomes_the_best(self):
        follower = Follower(3, 10, (0, 2, 4))
        follower.hear((3, 0, 0), 0)
        self.assertEqual((follower.scores(), follower.heeded()), ((3, 2, 4), (0, 1, 0)))
        self.assertEqual(follower.say((1, 5, 9)), 5)
        # Now the first one is as good, and stands ahead.
        follower.hear((None, 1, None), 0)
        self.assertEqual((follower.scores(), follower.heeded()), ((3, 3, 4), (1, 0, 0)))
        self.assertEqual(follower.say((1, 5, 9)), 1)

    def test_the_words_of_the_document(self):
        for push in itertools.product(range(3), repeat=3):
            follower = Follower(3, 2, push)
            self.assertEqual(follower.heeded(), plain_heeded(push))
            for said in SAIDS:
                self.assertEqual(follower.say(said), plain_saying(push, said))

    def test_the_order_of_the_advisers_changes_nothing_where_one_is_the_best(self):
        source = random.Random(19)
        for order in itertools.permutations(range(4)):
            push = drawn_push(source, 4, 9)
            one, other = Follower(4, 6, push), Follower(4, 6, turned(push, order))
            for said, so in drawn_turns(source, 4, 6, 30):
                awake = [score for score, what in zip(one.scores(), said) if what is not None]
                if awake.count(min(awake, default=None)) < 2:
                    self.assertEqual(one.say(said), other.say(turned(said, order)))
                one.hear(said, so)
                other.hear(turned(said, order), so)
                self.assertEqual(turned(one.scores(), order), other.scores())


class KeptTest(HandTest):
    def setUp(self):
        self.follower = Follower(2, 2, (4, 3))
        self.follower.hear((0, 2), 0)
        self.follower.hear((None, 1), 0)

    def test_asking_changes_nothing(self):
        self.assert_asking_changes_nothing(self.follower, kept, itertools.product((None, 0, 1, 2), repeat=2))

    def test_what_is_refused_changes_nothing(self):
        self.assertEqual(self.follower.scores(), (4, 6))
        self.assert_refusals_change_nothing(self.follower, kept)
        self.assert_refusals_change_nothing(Follower(2, 2), kept)
        self.assertEqual(self.follower.scores(), (4, 6))

    def test_two_followers_share_nothing(self):
        push = (4, 3)
        one, other = Follower(2, 2, push), Follower(2, 2, push)
        one.hear((0, 2), 0)
        self.assertEqual((one.scores(), other.scores(), push), ((4, 5), (4, 3), (4, 3)))
        other.hear((2, 1), 0)
        self.assertEqual((one.scores(), other.scores(), push), ((4, 5), (6, 4), (4, 3)))
        bare, second = Follower(2, 2), Follower(2, 2)
        bare.hear((1, 2), 0)
        self.assertEqual((bare.scores(), second.scores()), ((1, 2), (0, 0)))
        self.assertEqual(Follower(2, 2).scores(), (0, 0))

    def test_what_was_told_stays(self):
        told = (self.follower.scores(), self.follower.heeded())
        self.follower.hear((2, 0), 0)
        self.follower.hear((2, 0), 0)
        self.assertEqual(told, ((4, 6), (1, 0)))
        self.assertEqual((self.follower.scores(), self.follower.heeded()), ((8, 6), (0, 1)))

    def test_anew(self):
        other = self.follower.anew()
        self.assertIs(type(other), Follower)
        self.assertIsNot(other, self.follower)
        self.assertEqual((other.many, other.scale, other.push), (2, 2, (4, 3)))
        self.assertEqual(other.scores(), (4, 3))
        self.assertEqual(other.heeded(), (0, 1))
        other.hear((2, 2), 0)
        self.assertEqual((other.scores(), self.follower.scores()), ((6, 5), (4, 6)))
        self.follower.hear((1, 1), 0)
        self.assertEqual((other.scores(), self.follower.scores()), ((6, 5), (5, 7)))
        self.assertEqual(other.anew().scores(), (4, 3))
        self.assertEqual(Follower(2, 2).anew().push, (0, 0))

    def test_ran(self):
        turns = (((0, 2), 0), ((None, 1), 0), ((2, 1), 0), ((2, 1), 0), ((None, None), 2))
        # Behind the turns the scores are (4, 5), (4, 6), (6, 7), (8, 8), (8, 8).
        self.assertEqual(ran(self.follower, turns), (2, 1, 2, 2, 0))
        self.assertEqual(self.follower.scores(), (4, 6))
        with self.assertRaises(NoTurn) as caught:
            ran(self.follower, turns + (((2, 3), 0),))
        self.assertEqual(caught.exception.number, 5)
        self.assertEqual(self.follower.scores(), (4, 6))


class MostFollowingTest(unittest.TestCase):
    def assert_most(self, push, least, wanted):
        told = most_following(push, least)
        self.assertEqual(told, wanted)
        self.assertIs(type(told), int)

    def test_by_hand(self):
        self.assert_most((0, 0), 0, 1)
        self.assert_most((0, 0, 0), 2, 8)
        self.assert_most((0, 1, 5), 3, 6)
        self.assert_most((2, 0, 1), 2, 5)

    def test_as_great_as_least(self):
        self.assert_most((5, 2), 5, 4)
        self.assert_most((3, 3), 3, 1)
        self.assert_most((3, 4), 3, 0)
        self.assert_most((4, 3), 3, 0)

    def test_all_above_least(self):
        self.assert_most((4, 5), 3, 0)
        self.assert_most((1,), 0, 0)
        self.assert_most((GREATEST,) * 24, 0, 0)
        self.assert_most((GREATEST,) * 24, GREATEST - 1, 0)

    def test_one_push(self):
        self.assert_most((0,), 0, 0)
        self.assert_most((0,), 1, 1)
        self.assert_most((3,), 3, 0)
        self.assert_most((3,), 10, 7)

    def test_24_pushes(self):
        self.assert_most((0,) * 24, 0, 23)
        self.assert_most((0,) * 24, 60, 24 * 61 - 1)
        self.assert_most(tuple(range(24)), 23, 299)
        self.assert_most(tuple(range(24)), 11, 77)

    def test_great_pushes(self):
        great = 10 ** 59 - 1
        self.assert_most((great, great - 5), great, 6)
        self.assert_most((great, great - 5), great - 1, 4)
        self.assert_most((0, great), great, great + 1)
        self.assert_most((0, great), great - 1, great - 1)

    def test_no_follower_errs_more_often(self):
        source = random.Random(20)
        for many, scale, most in itertools.product((1, 2, 3, 7, 24), (1, 2, 10), (0, 1, 5, 30)):
            for again in range(3):
                follower = Follower(many, scale, drawn_push(source, many, most))
                for count in (0, 1, 5, 60):
                    self.assert_bound(follower, drawn_turns(source, many, scale, count, sleep=False))
                    self.assert_bound(follower, hurting_turns(source, follower, count, sleep=False))

    def assert_bound(self, follower, turns):
        runner = follower.anew()
        errors = 0
        for said, so in turns:
            errors = errors + (runner.say(said) != so)
            runner.hear(said, so)
        self.assertLessEqual(errors, most_following(follower.push, min(runner.scores())))

    def test_the_bound_is_reached(self):
        # Each one in its turn is followed and errs alone, until but the last one has the least score.
        for many, rounds in ((1, 0), (2, 3), (5, 2), (24, 1)):
            follower = Follower(many, 1)
            errors = 0
            for number in range(many * rounds + many - 1):
                said = tuple(int(adviser == number % many) for adviser in range(many))
                errors = errors + follower.say(said)
                follower.hear(said, 0)
            self.assertEqual(errors, many * rounds + many - 1)
            self.assertEqual(most_following((0,) * many, min(follower.scores())), errors)


if __name__ == "__main__":
    unittest.main()
