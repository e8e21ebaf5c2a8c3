"""What the document promises over the whole program."""

import importlib
import inspect
import itertools
import os
import pathlib
import random
import subprocess
import sys
import unittest

from samples import HandTest, bare_hands, drawn_turns, hands_alike, hands_for, hurting_turns, told_of, turned

from heedwise import errors
from heedwise.best import best_row, row_table
from heedwise.books import Book
from heedwise.errors import HeedError, NoName, NoRow, NoRule, NoTurn, NoWay, Twice
from heedwise.followers import Follower, most_following
from heedwise.hands import Hand
from heedwise.meaners import Meaner
from heedwise.papers import most_errors, paper, ran
from heedwise.rounders import Rounder
from heedwise.rows import read, written
from heedwise.shifters import Shifter
from heedwise.tiers import Tier
from heedwise.traps import trap, trap_following
from heedwise.turns import charges, check_turn, check_turns, erred, own_errors
from heedwise.weighers import Weigher
from heedwise.wholes import halvings, middle, power

# What is to be there, by its module, with its arguments.
INTERFACE = {
    "errors": {},
    "wholes": {"power": "base exponent", "halvings": "count", "middle": "numbers weights"},
    "turns": {
        "check_turn": "many scale said so", "check_turns": "many scale turns", "charge": "what so",
        "charges": "many turns", "erred": "many turns", "own_errors": "many turns sayings",
    },
    "rows": {"written": "turns", "read": "many scale text"},
    "hands": {
        "Hand": "many scale", "Hand.heeded": "self", "Hand.say": "self said", "Hand.hear": "self said so",
        "Hand.anew": "self",
    },
    "weighers": {"Weigher": "many scale top bottom", "Weigher.weights": "self", "Weigher.total": "self"},
    "papers": {"ran": "hand turns", "paper": "weigher turns", "most_errors": "many top bottom own"},
    "followers": {"Follower": "many scale push", "Follower.scores": "self", "most_following": "push least"},
    "traps": {"trap_following": "follower many_turns", "trap": "hand many_turns"},
    "rounders": {"Rounder": "many scale", "Rounder.ins": "self", "Rounder.rounds": "self"},
    "shifters": {"Shifter": "many scale top bottom share parts"},
    "best": {"row_table": "many turns changes", "best_row": "many turns changes"},
    "tiers": {"Tier": "hands head", "Tier.hand_charges": "self"},
    "meaners": {
        "Meaner": "many scale top bottom", "Meaner.mean": "self said", "Meaner.hear": "self said so",
        "Meaner.weights": "self", "Meaner.anew": "self",
    },
    "books": {
        "Book": "scale top bottom", "Book.come": "self name", "Book.go": "self name", "Book.there": "self",
        "Book.ever": "self", "Book.say": "self said", "Book.hear": "self said so", "Book.weights": "self",
        "Book.tell": "self row",
    },
}
HANDS = (Hand, Weigher, Follower, Rounder, Shifter, Tier)
REFUSALS = (NoTurn, NoRow, NoRule, NoWay, NoName, Twice)

TOP = pathlib.Path(__file__).resolve().parent.parent

# What is told in another process, by dicts and texts for the most part.
TALE = """
from heedwise.books import Book
from heedwise.followers import Follower
from heedwise.hands import Hand
from heedwise.tiers import Tier
from heedwise.traps import trap
from heedwise.best import best_row
book = Book(3, 1, 2)
for row in ("come ben", "come ann", "come zed", "so 2 zed 3 ann 0", "go ann", "come ann", "say ben 1 zed 0 ann 3"):
    print(book.tell(row), book.there(), book.weights())
turns = trap(Tier((Hand(3, 2), Follower(3, 2)), Follower(2, 2)), 20)
print(turns, best_row(3, turns, 3))
"""


class InterfaceTest(unittest.TestCase):
    def test_names_and_arguments(self):
        for module, names in INTERFACE.items():
            found = importlib.import_module("heedwise." + module)
            for name, arguments in names.items():
                thing = found
                for part in name.split("."):
                    thing = getattr(thing, part)
                self.assertEqual(" ".join(inspect.signature(thing).parameters), arguments, name)
        self.assertIsNone(inspect.signature(Follower).parameters["push"].default)

    def test_each_hand_is_asked_heard_and_made_anew(self):
        for kind in HANDS:
            self.assertTrue(issubclass(kind, Hand))
            for name in ("Hand.heeded", "Hand.say", "Hand.hear", "Hand.anew"):
                method = getattr(kind, name.split(".")[1])
                self.assertEqual(" ".join(inspect.signature(method).parameters), INTERFACE["hands"][name])
        for kind in (Meaner, Book):
            self.assertFalse(issubclass(kind, Hand))

    def test_by_keyword(self):
        hands = (Hand(many=2, scale=3), Weigher(many=2, scale=3, top=1, bottom=2), Rounder(many=2, scale=3))
        tier = Tier(hands=hands, head=Shifter(many=3, scale=3, top=1, bottom=2, share=1, parts=2))
        self.assertEqual(tier.say(said=(1, 3)), 1)
        self.assertIsNone(tier.hear(said=(1, 3), so=3))
        self.assertEqual(best_row(many=2, turns=(((1, 3), 3),), changes=1), ((1,), 0))
        self.assertEqual(Meaner(many=2, scale=3, top=1, bottom=2).mean(said=(1, 3)), (4, 2))
        book = Book(scale=3, top=1, bottom=2)
        book.come(name="a")
        self.assertEqual((book.say(said={"a": 2}), book.tell(row="say a 2")), (2, "2"))
        self.assertIsNone(book.hear(said={"a": 2}, so=2))
        book.go(name="a")


class OrderTest(HandTest):
    """In what order the advisers stand changes nothing in what a hand says."""

    def tiers(self, many, scale):
        """Tiers without a Follower."""
        hands = tuple(hands_alike(many, scale))
        tiers = [Tier(hands, head) for head in hands_alike(len(hands), scale)]
        within = Tier((tiers[1], Rounder(many, scale), tiers[4]), Tier((Rounder(3, scale),), Hand(1, scale)))
        return tiers + [within, Tier((within, tiers[0]), Shifter(2, scale, 1, 2, 1, 2))]

    def assert_alike(self, hand, count, orders):
        source = random.Random(80)
        for order in orders:
            for turns in (drawn_turns(source, hand.many, hand.scale, count), hurting_turns(source, hand, count)):
                self.assert_the_same_turned_about(hand.anew(), hand.anew(), turns, order)

    def test_hands(self):
        for scale in (1, 2, 10):
            for hand in hands_alike(4, scale):
                self.assert_alike(hand, 8, itertools.permutations(range(4)))

    def test_tiers(self):
        for scale in (1, 3):
            for tier in self.tiers(4, scale):
                self.assert_alike(tier, 8, ((3, 2, 1, 0), (1, 0, 2, 3), (2, 0, 3, 1)))

    def test_24_advisers(self):
        orders = [tuple(range(23, -1, -1)), tuple(random.Random(81).sample(range(24), 24))]
        for hand in hands_alike(24, 10) + [Tier((Hand(24, 10), Weigher(24, 10, 1, 2)), Rounder(2, 10))]:
            self.assert_alike(hand, 20, orders)

    def test_the_hands_of_a_tier(self):
        # To the head its hands are as advisers are to a hand.
        hands = tuple(bare_hands(3, 2))
        order = tuple(random.Random(82).sample(range(len(hands)), len(hands)))
        turns = drawn_turns(random.Random(83), 3, 2, 30)
        for head in hands_alike(len(hands), 2):
            one, other = Tier(hands, head), Tier(turned(hands, order), head)
            self.assertEqual(ran(one, turns), ran(other, turns))
            for said, so in turns:
                one.hear(said, so)
                other.hear(said, so)
            self.assertEqual(turned(one.hand_charges(), order), other.hand_charges())


class RefusalTest(unittest.TestCase):
    def refused(self):
        """Each refusal that the document tells, by something that is refused with it."""
        book = Book(1, 1, 2)
        book.come("a")
        for hand in hands_for(2, 1):
            yield NoTurn, hand.say, ((0, 2),)
            yield NoTurn, hand.hear, ((0, 1), 2)
            yield NoTurn, ran, (hand, (((0, 2), 1),))
        for hand in hands_for(1, 1):
            yield NoWay, trap, (hand, 1)
        yield NoTurn, check_turn, (2, 1, (0,), 1)
        yield NoTurn, check_turns, (2, 1, [])
        yield NoTurn, paper, (Weigher(2, 1, 1, 2), None)
        yield NoTurn, Meaner(2, 1, 1, 2).mean, ((0, None),)
        yield NoTurn, Meaner(2, 1, 1, 2).hear, ((0, None), 1)
        yield NoTurn, book.say, ({"a": 2},)
        yield NoTurn, book.hear, ({"a": 1}, 2)
        yield NoTurn, book.tell, ("so 2",)
        yield NoRow, read, (2, 1, "0 1 : 2")
        yield NoRow, book.tell, ("come a b",)
        yield NoRule, Hand, (0, 1)
        yield NoRule, Weigher, (2, 1, 1, 1)
        yield NoRule, Follower, (2, 1, (0,))
        yield NoRule, Rounder, (2, 11)
        yield NoRule, Shifter, (2, 1, 1, 2, 2, 2)
        yield NoRule, Tier, ((), Hand(1, 1))
        yield NoRule, Meaner, (2, 1, 1, 1)
        yield NoRule, Book, (1, 1, 1)
        yield NoName, book.come, ("A",)
        yield NoName, book.go, ("b",)
        yield NoName, book.say, ({"b": 1},)
        yield NoName, book.hear, ({"b": 1}, 1)
        yield NoName, book.tell, ("go b",)
        yield Twice, book.come, ("a",)
        yield Twice, book.tell, ("come a",)

    def test_each_is_a_value_error_and_no_other_one(self):
        met = set()
        for refusal, call, handed in self.refused():
            with self.assertRaises(ValueError, msg=handed) as caught:
                call(*handed)
            self.assertIsInstance(caught.exception, HeedError)
            self.assertEqual([kind for kind in REFUSALS if isinstance(caught.exception, kind)], [refusal], handed)
            met.add(refusal)
        self.assertEqual(met, set(REFUSALS))

    def test_there_are_no_others(self):
        found = {kind for kind in vars(errors).values() if isinstance(kind, type)}
        self.assertEqual(found, set(REFUSALS) | {HeedError})


class BeyondTest(unittest.TestCase):
    """What lies somewhat beyond a bound is not refused, unless a point says so."""

    def test_more_turns(self):
        turns = drawn_turns(random.Random(84), 3, 2, 70)
        self.assertIsNone(check_turns(3, 2, turns))
        self.assertEqual(read(3, 2, written(turns)), turns)
        self.assertEqual(len(own_errors(3, turns, (0,) * 70)), 3)
        self.assertEqual((len(charges(3, turns)), len(erred(3, turns))), (3, 3))
        for hand in hands_for(3, 2):
            self.assertEqual((len(ran(hand, turns)), len(trap(hand, 65))), (70, 65))
        self.assertEqual(len(paper(Shifter(3, 2, 1, 2, 1, 2), turns)), 70)
        self.assertEqual(len(trap_following(Follower(3, 2), 70)), 70)
        self.assertEqual((len(row_table(3, turns, 2)), len(best_row(3, turns, 2)[0])), (70, 70))

    def test_more_of_other_things(self):
        turns = drawn_turns(random.Random(85), 30, 12, 20)
        self.assertEqual([len(lines) for lines in row_table(30, turns, 14)], [15] * 20)
        self.assertEqual(best_row(30, turns, 25)[1], sum(self.least(said, so) for said, so in turns))
        self.assertEqual(power(2, 1100), 2 ** 1100)
        self.assertEqual(halvings(2 ** 300), 300)
        self.assertEqual(middle(tuple(range(121)), (1,) * 121), 60)
        # Four thirds, taken 168 times, are less than 70 twos, one times the other, and 169 times above them.
        self.assertEqual(most_errors(1, 1, 2, 70), 168)
        self.assertEqual(most_following((0,) * 30, 100), 30 * 101 - 1)

    def least(self, said, so):
        return min(0 if what is None else abs(what - so) for what in said)

    def test_more_tiers_within_one_another(self):
        tier = Follower(2, 3)
        for number in range(6):
            tier = Tier((tier,), Hand(1, 3))
        self.assertEqual(ran(tier, (((1, 3), 3), ((1, 3), 3))), (1, 3))
        self.assertEqual(trap(tier, 2), (((0, 3), 3), ((0, 3), 0)))

    def test_a_meaner_and_a_book_that_hear_more(self):
        meaner, book = Meaner(2, 3, 1, 2), Book(3, 1, 2)
        book.come("a")
        for number in range(70):
            meaner.hear((0, 3), 3)
            book.hear({"a": 3}, 3)
        self.assertEqual(meaner.weights(), ((3 ** 70, 6 ** 70), 6 ** 70))
        self.assertEqual(book.weights(), ({"a": 16 ** 70}, 16 ** 70))


class KeptTest(unittest.TestCase):
    def test_asked_by_others_a_hand_stays(self):
        turns = drawn_turns(random.Random(86), 2, 3, 5)
        for hand in hands_for(2, 3):
            for said, so in turns:
                hand.hear(said, so)
            before = told_of(hand)
            ran(hand, turns)
            trap(hand, 5)
            Tier((hand, hand), hand).hear((0, 3), 3)
            hand.anew().hear((0, 3), 3)
            self.assertEqual(told_of(hand), before)

    def test_nothing_hangs_on_chance(self):
        tales = set()
        for seed in ("0", "1", "2", "3"):
            given = dict(os.environ, PYTHONHASHSEED=seed, PYTHONPATH=str(TOP), PYTHONDONTWRITEBYTECODE="1")
            tales.add(subprocess.run([sys.executable, "-c", TALE], env=given, capture_output=True, check=True).stdout)
        self.assertEqual(len(tales), 1)
        self.assertNotEqual(tales, {b""})


if __name__ == "__main__":
    unittest.main()
