import itertools
import random
import unittest

from samples import GREATEST, NO_SCALE, HandTest

from heedwise.books import Book
from heedwise.errors import HeedError, NoName, NoRow, NoTurn, Twice
from heedwise.hands import Hand
from heedwise.weighers import Weigher

LETTERS = "abcdefghijklmnopqrstuvwxyz"

# Texts that are no names.
NO_NAMES = (
    "", "abcdefghi", "a" * 9, "a" * 60, "A", "aB", "Abcdefgh", "a1", "1", "0", "a b", " a", "a ", " ", "a-b", "-", "_",
    "a_b", "a.", "`", "{", "~", "a~", "\n", "a\n", "\na", "\t", "a\tb", "\u00e4", "\u00df", "\u03b1", "\uff41",
    "a\u0301",
)
# What is no text, handed to come or go.
NO_TEXTS = (
    None, 0, 1, -1, GREATEST, True, False, (), ("a",), ("a", "b"), [], ["a"], [[]], {}, {"a": 1}, ((), [None]),
    1.5, b"a",
)
# What is no number of the scale from 0 to 2.
NO_NUMBERS = (-1, 3, GREATEST, -GREATEST, True, False, None, "1", "", (), (1,), [], [1])

# Rows that are none, whoever is there.
NO_ROWS = (
    "", " ", "  ", "come", "go", "so", "come ", "go ", "say ", "so ", " come a", " say", " so 1", "come a ", "go a ",
    "say a 1 ", "so 1 ", "so 1 a 1 ", "come  a", "go  a", "say  a 1", "say a  1", "so  1", "so 1  a 1", "come a b",
    "come a 1", "go a b", "come a a", "go a a", "say a", "say a 1 b", "say 1", "say a 1 b 2 c", "so a", "so a 1",
    "so 1 a", "so 1 a 1 b", "so 1 1", "so 1 2 3 4", "say a a", "say a b", "say a -", "say a -1", "say a +1", "say a 01",
    "say a 00", "say a 1.0", "say a 1_0", "say a 0x1", "say a None", "so -", "so -1", "so +1", "so 01", "so 00",
    "so None", "so 1 a -", "so 1 a 01", "so 01 a 1", "so 1 a +1", "Come a", "COME a", "Say", "So 1", "comes a",
    "com a", "gone a", "hear 1 a 1", "tell a", "a", "0", "1 a 1", "there", "ever", "weights", ":", "0 1 : 1", "so : 1",
    "come\ta", "come\na", "go\ta", "go\na", "say\ta 1", "say a\t1", "say a\n1", "say a 1\n", "say a 1\t", "say a \t1",
    "so\t1", "so 1\n", "so 1\t", "so 1\na 1", "so 1 a 1\n", "\ncome a", "\tcome a", "\nsay", "say\n", "say\t", "so\n1",
    "\n", "\t", "come a\n ", "come a\ngo a", "say a 1\nsay a 1", "so 1\nso 1",
    # A word told twice as a NAME, whatever word it is.
    "say a 1 a 1", "say a 1 b 1 a 2", "so 1 a 1 a 1", "so 1 b 1 a 1 a 1", "say x 1 x 1", "say A 1 A 1", "say 1 1 1 1",
    "so 1 1 1 1 1", "say a 9 a 9", "so 9 a 1 a 1",
    # Figures that are not of those from 0 to 9.
    "say a \u0661", "so \u00b2", "so \uff11",
    # Of more than 60 figures.
    "so " + "1" * 61, "so 0" + "1" * 60, "say a " + "9" * 61, "say a " + "1" * 5000, "so " + "1" * 5000,
)


def told_of(book):
    return (book.there(), book.ever(), book.weights())


def book_of(scale, top, bottom, *names):
    book = Book(scale, top, bottom)
    for name in names:
        book.come(name)
    return book


def names_of(count):
    """Names in the order of texts."""
    return sorted("".join(pair) for pair in itertools.islice(itertools.product(LETTERS, repeat=2), count))


class BookTest(HandTest):
    def assert_book(self, book, tops, under, ever):
        self.assertEqual(told_of(book), (tuple(sorted(tops)), ever, (tops, under)))
        self.assertEqual((type(book.there()), type(book.ever()), type(book.weights())), (tuple, int, tuple))
        told, number = book.weights()
        self.assertEqual((type(told), type(number)), (dict, int))
        self.assertEqual([type(top) for top in told.values()], [int] * len(tops))
        self.assertEqual([type(name) for name in book.there()], [str] * len(tops))

    def assert_refused(self, book, refusal, call, *handed):
        """Refused with this class, and the Book is as it was."""
        before = told_of(book)
        with self.assertRaises(HeedError, msg=handed) as caught:
            call(*handed)
        self.assertIs(type(caught.exception), refusal, handed)
        if refusal in (NoTurn, NoRow):
            self.assertEqual(caught.exception.number, 0)
        self.assertEqual(told_of(book), before)


class MakingTest(BookTest):
    def test_it_is_no_hand(self):
        self.assertNotIsInstance(Book(1, 1, 2), Hand)

    def test_at_first(self):
        for scale, top, bottom in ((1, 0, 1), (2, 1, 2), (10, 99, 100)):
            self.assert_book(Book(scale, top, bottom), {}, 1, 0)

    def test_refused(self):
        for scale in NO_SCALE:
            self.assert_no_rule(Book, scale, 1, 2)
        for scale in (1, 10):
            self.assert_fractions_refused(lambda top, bottom: Book(scale, top, bottom))
        self.assert_no_rule(Book, 0, 2, 2)
        self.assert_no_rule(Book, True, True, True)


class ComeAndGoTest(BookTest):
    def test_come_and_go(self):
        book = Book(1, 1, 2)
        self.assertIsNone(book.come("b"))
        self.assert_book(book, {"b": 1}, 1, 1)
        self.assertIsNone(book.come("c"))
        self.assertIsNone(book.come("a"))
        self.assertEqual(book.there(), ("a", "b", "c"))
        self.assert_book(book, {"a": 1, "b": 1, "c": 1}, 1, 3)
        self.assertIsNone(book.go("b"))
        self.assert_book(book, {"a": 1, "c": 1}, 1, 3)
        book.go("a")
        book.go("c")
        self.assert_book(book, {}, 1, 3)

    def test_names_of_one_letter_and_of_eight(self):
        book = Book(1, 1, 2)
        names = list(LETTERS) + ["abcdefgh", "zzzzzzzz", "ijklmnop", "qrstuvwx", "yzabcdef"]
        for name in names:
            book.come(name)
        self.assertEqual(book.there(), tuple(sorted(names)))
        self.assertEqual(book.ever(), len(names))
        for name in names:
            self.assertEqual(book.say({name: 1}), 1)
            book.go(name)
        self.assertEqual(book.there(), ())

    def test_the_order_of_texts(self):
        book = book_of(1, 1, 2, "b", "ab", "a", "ba", "aa", "aaaaaaaa", "z", "az")
        self.assertEqual(book.there(), ("a", "aa", "aaaaaaaa", "ab", "az", "b", "ba", "z"))

    def test_one_that_comes_later_weighs_one(self):
        book = book_of(1, 1, 2, "a", "b")
        book.hear({"a": 0, "b": 1}, 1)
        book.come("c")
        self.assert_book(book, {"a": 4, "b": 8, "c": 6}, 6, 3)

    def test_one_that_comes_again_is_a_new_one(self):
        book = book_of(1, 1, 2, "a", "b")
        book.hear({"a": 0, "b": 1}, 1)
        book.go("a")
        self.assert_book(book, {"b": 8}, 6, 2)
        book.come("a")
        self.assert_book(book, {"a": 6, "b": 8}, 6, 3)
        book.go("a")
        book.come("a")
        self.assert_book(book, {"a": 6, "b": 8}, 6, 4)

    def test_one_without_weight_goes_and_comes_again(self):
        book = book_of(1, 0, 1, "a")
        book.hear({"a": 1}, 0)
        self.assert_book(book, {"a": 0}, 1, 1)
        book.go("a")
        book.come("a")
        self.assert_book(book, {"a": 1}, 1, 2)

    def test_more_than_are_in_a_hand(self):
        book = book_of(1, 1, 2, *names_of(40))
        self.assertEqual((len(book.there()), book.ever()), (40, 40))
        self.assertEqual(book.say(dict.fromkeys(book.there(), 1)), 1)


class SayAndHearTest(BookTest):
    def test_on_the_scale_1(self):
        book = book_of(1, 1, 2, "a", "b")
        self.assertEqual(book.say({"a": 0, "b": 1}), 0)
        self.assertIsNone(book.hear({"a": 0, "b": 1}, 1))
        self.assert_book(book, {"a": 4, "b": 8}, 6, 2)
        book.come("c")
        self.assertEqual(book.say({"a": 0, "b": 1}), 1)
        self.assertEqual(book.say({"c": 1, "a": 0}), 1)
        self.assertEqual(book.say({"b": 0, "c": 1}), 0)
        self.assertEqual(book.say({"a": 1, "c": 1, "b": 0}), 1)
        self.assertEqual(book.say({"b": 1, "a": 0, "c": 0}), 0)
        # a isn't told: it sleeps.
        book.hear({"c": 1, "b": 0}, 1)
        self.assert_book(book, {"a": 24, "b": 32, "c": 48}, 36, 3)
        book.go("b")
        book.come("b")
        book.hear({"b": 1}, 1)
        self.assert_book(book, {"a": 96, "b": 144, "c": 192}, 144, 4)

    def test_above_the_scale_1(self):
        book = book_of(3, 2, 3, "x", "y")
        self.assertEqual(book.say({"x": 3, "y": 0}), 0)
        book.hear({"x": 3, "y": 0}, 2)
        self.assert_book(book, {"x": 324, "y": 216}, 351, 2)
        self.assertEqual(book.say({"y": 0, "x": 3}), 3)
        book.hear({"y": 1}, 3)
        self.assert_book(book, {"x": 113724, "y": 46656}, 123201, 2)

    def test_none_told(self):
        book = book_of(1, 1, 2, "a", "b")
        book.hear({"a": 0, "b": 1}, 1)
        self.assertEqual(book.say({}), 0)
        # It says 0: so its charge is what was so.
        book.hear({}, 1)
        self.assert_book(book, {"a": 24, "b": 48}, 36, 2)
        book.hear({}, 0)
        self.assert_book(book, {"a": 96, "b": 192}, 144, 2)

    def test_none_there(self):
        book = Book(2, 1, 3)
        self.assertEqual(book.say({}), 0)
        self.assertIs(type(book.say({})), int)
        book.hear({}, 2)
        self.assert_book(book, {}, 90, 0)
        book.come("a")
        self.assert_book(book, {"a": 90}, 90, 1)
        book.go("a")
        self.assertEqual(book.say({}), 0)
        book.hear({}, 0)
        self.assert_book(book, {}, 1620, 1)

    def test_top_0(self):
        book = book_of(1, 0, 1, "a", "b", "c", "d")
        book.hear({"a": 0, "b": 0, "c": 0, "d": 1}, 1)
        self.assert_book(book, {"a": 0, "b": 0, "c": 0, "d": 2}, 1, 4)
        self.assertEqual(book.say({"a": 0, "b": 0, "c": 0, "d": 1}), 1)
        # Those that speak have no weight: each counts 1.
        self.assertEqual(book.say({"a": 1, "b": 1, "c": 0}), 1)
        self.assertEqual(book.say({"a": 1, "b": 0}), 0)
        book.come("e")
        self.assertEqual(book.say({"a": 1, "b": 1, "e": 0}), 0)

    def test_each_number_of_a_scale(self):
        book = book_of(10, 1, 2, "a")
        for number in range(11):
            self.assertEqual(book.say({"a": number}), number)
            self.assertIsNone(book.hear({"a": number}, number))
        self.assertIsNone(book.hear({}, 10))

    def test_the_dict_in_another_order(self):
        said = {"a": 3, "b": 0, "c": 7, "d": 9}
        books = [book_of(10, 2, 3, *order) for order in itertools.permutations(said)]
        for book, order in zip(books, itertools.permutations(said, 4)):
            book.hear({name: said[name] for name in order[:3]}, 4)
            book.hear({name: said[name] for name in order}, 8)
            self.assertEqual(book.say({name: said[name] for name in order[::-1]}), book.say(said))
        one, other = book_of(10, 2, 3, "a", "b", "c"), book_of(10, 2, 3, "c", "a", "b")
        for so in (4, 8, 0):
            self.assertEqual(one.say({"a": 3, "b": 0, "c": 7}), other.say({"c": 7, "b": 0, "a": 3}))
            one.hear({"a": 3, "b": 0, "c": 7}, so)
            other.hear({"c": 7, "b": 0, "a": 3}, so)
            self.assertEqual(told_of(one), told_of(other))


class KeptTest(BookTest):
    def setUp(self):
        self.book = book_of(2, 1, 3, "a", "b", "c")
        self.book.hear({"a": 2, "b": 0}, 1)
        self.kept = told_of(self.book)

    def test_asking_changes_nothing(self):
        for whats in itertools.product((None, 0, 1, 2), repeat=3):
            said = {name: what for name, what in zip("abc", whats) if what is not None}
            before = dict(said)
            self.assertEqual(self.book.say(said), self.book.say(said))
            self.assertEqual((told_of(self.book), said), (self.kept, before))

    def test_what_is_handed_in_stays(self):
        said = {"c": 1, "a": 0}
        self.book.say(said)
        self.book.hear(said, 2)
        self.assertEqual((said, list(said)), ({"c": 1, "a": 0}, ["c", "a"]))

    def test_what_is_done_later_to_what_was_handed_in(self):
        other = book_of(2, 1, 3, "a", "b", "c")
        said = {"a": 2, "b": 0}
        other.say(said)
        other.hear(said, 1)
        said["c"] = 0
        said.pop("a")
        self.assertEqual(told_of(other), self.kept)
        said.clear()
        other.hear({"c": 0}, 0)
        self.book.hear({"c": 0}, 0)
        self.assertEqual(told_of(other), told_of(self.book))

    def test_what_is_done_to_what_was_told(self):
        told = self.book.weights()[0]
        again = self.book.weights()[0]
        self.assertIsNot(told, again)
        told["a"] = 0
        told["d"] = 7
        told.pop("b")
        self.assertEqual(told_of(self.book), self.kept)
        self.assertEqual(again, self.kept[2][0])
        self.assert_refused(self.book, NoName, self.book.say, {"d": 1})
        self.book.weights()[0].clear()
        self.assertEqual(told_of(self.book), self.kept)

    def test_what_was_told_stays(self):
        told, before = told_of(self.book), told_of(self.book)
        self.book.hear({"c": 2}, 0)
        self.book.go("a")
        self.book.come("d")
        self.assertEqual(told, before)
        self.assertNotEqual(told_of(self.book), before)
        empty = Book(1, 1, 2)
        told = empty.weights()
        told[0]["a"] = 1
        self.assert_book(empty, {}, 1, 0)

    def test_two_books_share_nothing(self):
        other = Book(2, 1, 3)
        self.assert_book(other, {}, 1, 0)
        other.come("z")
        other.hear({"z": 0}, 2)
        self.assertEqual(told_of(self.book), self.kept)
        self.book.come("y")
        self.assert_book(other, {"z": 18}, 90, 1)
        self.assert_book(Book(2, 1, 3), {}, 1, 0)


class RefusedTest(BookTest):
    def setUp(self):
        self.book = book_of(2, 1, 3, "c", "a", "b")
        self.book.hear({"a": 2, "b": 0}, 1)
        self.book.go("c")

    def test_what_is_no_name(self):
        for name in NO_NAMES + NO_TEXTS:
            self.assert_refused(self.book, NoName, self.book.come, name)
            self.assert_refused(self.book, NoName, self.book.go, name)
        for name in NO_NAMES:
            self.assert_speaker_refused(name)

    def assert_speaker_refused(self, name):
        for said in ({name: 1}, {name: 1, "a": 1}, {"a": 1, name: 1}, {name: 9, "a": 1}, {name: 1, "b": None}):
            self.assert_refused(self.book, NoName, self.book.say, said)
            for so in (0, 2) + NO_NUMBERS:
                self.assert_refused(self.book, NoName, self.book.hear, said, so)

    def test_speakers_that_are_no_texts(self):
        for name in (None, 1, True, (), ("a", "b")):
            for said in ({name: 1}, {name: 1, "a": 1}, {"a": 1, name: 9}):
                self.assert_refused(self.book, NoName, self.book.say, said)
                self.assert_refused(self.book, NoName, self.book.hear, said, 1)

    def test_twice(self):
        for name in ("a", "b"):
            self.assert_refused(self.book, Twice, self.book.come, name)
        self.book.come("c")
        self.assert_refused(self.book, Twice, self.book.come, "c")
        self.book.go("c")
        self.book.come("c")
        self.assert_refused(self.book, Twice, self.book.come, "c")

    def test_one_that_is_not_there(self):
        for name in ("c", "d", "aa", "ab", "abcdefgh"):
            self.assert_refused(self.book, NoName, self.book.go, name)
            self.assert_speaker_refused(name)
        self.book.go("a")
        self.assert_refused(self.book, NoName, self.book.go, "a")
        self.assert_refused(self.book, NoName, self.book.say, {"a": 1})

    def test_what_is_no_number_of_the_scale(self):
        for number in NO_NUMBERS:
            for said in ({"a": number}, {"a": 1, "b": number}, {"b": number, "a": 0}, {"a": number, "b": number}):
                self.assert_refused(self.book, NoTurn, self.book.say, said)
                for so in (0, 2) + NO_NUMBERS:
                    self.assert_refused(self.book, NoTurn, self.book.hear, said, so)
            for said in ({}, {"a": 1}, {"b": 0, "a": 2}):
                self.assert_refused(self.book, NoTurn, self.book.hear, said, number)

    def test_names_go_first_wherever_they_stand(self):
        # One that is not there, behind one with a wrong number, and ahead of it.
        for number in NO_NUMBERS:
            wrong = {"a": number}
            for said in ({**wrong, "z": 1}, {"z": 1, **wrong}, {**wrong, "Z": 1}, {**wrong, "": number}):
                self.assert_refused(self.book, NoName, self.book.say, said)
                self.assert_refused(self.book, NoName, self.book.hear, said, 1)
                self.assert_refused(self.book, NoName, self.book.hear, said, number)

    def test_numbers_of_another_scale(self):
        self.assertEqual(book_of(3, 1, 3, "a").say({"a": 3}), 3)
        self.assert_refused(self.book, NoTurn, self.book.say, {"a": 3})
        self.assertIsNone(book_of(3, 1, 3, "a").hear({"a": 3}, 3))
        self.assert_refused(self.book, NoTurn, self.book.hear, {"a": 2}, 3)

    def test_refused_or_not_it_goes_on_as_ever(self):
        other = book_of(2, 1, 3, "c", "a", "b")
        other.hear({"a": 2, "b": 0}, 1)
        other.go("c")
        self.test_what_is_no_name()
        self.test_what_is_no_number_of_the_scale()
        for book in (self.book, other):
            book.hear({"a": 2}, 0)
            book.come("c")
            book.hear({"a": 2, "c": 2, "b": 1}, 0)
        self.assertEqual(told_of(self.book), told_of(other))


class DrawnTest(BookTest):
    def doings(self, source, scale, comings, count):
        """Drawn doings: a coming, a going, or a turn; at most so many comings, at most 60 turns."""
        there, doings = [], []
        for number in range(count):
            kind = source.choice(("come", "go", "turn", "turn"))
            if kind == "come" and comings > 0:
                comings = comings - 1
                there.append(source.choice([name for name in names_of(30) if name not in there]))
                doings.append((kind, there[-1]))
            elif kind == "go" and there and source.randrange(3) == 0:
                doings.append((kind, there.pop(source.randrange(len(there)))))
            else:
                awake = [name for name in there if source.randrange(4) > 0]
                said = {name: source.randint(0, scale) for name in source.sample(awake, len(awake))}
                doings.append(("turn", said, source.randint(0, scale)))
        return doings

    def rules(self):
        return itertools.product((1, 2, 10), ((0, 1), (1, 2), (2, 3), (99, 100), (0, 100)))

    def test_as_a_weigher_for_whom_each_one_that_came_is_an_adviser(self):
        source = random.Random(70)
        for (scale, (top, bottom)), comings in itertools.product(self.rules(), (1, 4, 24)):
            doings = self.doings(source, scale, comings, 70)
            self.assert_weighs_likewise(Book(scale, top, bottom), Weigher(comings, scale, top, bottom), doings)

    def assert_weighs_likewise(self, book, weigher, doings):
        numbers, came = {}, 0
        for doing in doings:
            if doing[0] == "come":
                book.come(doing[1])
                numbers[doing[1]] = came
                came = came + 1
            elif doing[0] == "go":
                book.go(doing[1])
                numbers.pop(doing[1])
            else:
                by_number = {numbers[name]: what for name, what in doing[1].items()}
                said = tuple(by_number.get(adviser) for adviser in range(weigher.many))
                self.assertEqual(book.say(doing[1]), weigher.say(said))
                book.hear(doing[1], doing[2])
                weigher.hear(said, doing[2])
            tops, under = weigher.weights()
            self.assert_book(book, {name: tops[number] for name, number in numbers.items()}, under, came)

    def test_the_sum_of_the_tops(self):
        source = random.Random(71)
        for scale, (top, bottom) in self.rules():
            for hurting in (False, True):
                self.assert_bound(Book(scale, top, bottom), self.doings(source, scale, 60, 90), hurting)

    def assert_bound(self, book, doings, hurting):
        for doing in doings:
            if doing[0] == "come":
                book.come(doing[1])
            elif doing[0] == "go":
                book.go(doing[1])
            else:
                so = doing[2]
                if hurting:
                    so = 0 if 2 * book.say(doing[1]) > book.scale else book.scale
                book.hear(doing[1], so)
            tops, under = book.weights()
            self.assertLessEqual(sum(tops.values()), under * book.ever())

    def test_told_by_rows(self):
        source = random.Random(72)
        for scale, (top, bottom) in self.rules():
            doings = self.doings(source, scale, 24, 60)
            self.assert_told_likewise(Book(scale, top, bottom), Book(scale, top, bottom), doings)

    def assert_told_likewise(self, book, other, doings):
        for doing in doings:
            if doing[0] == "come":
                other.come(doing[1])
                self.assertEqual(book.tell(f"come {doing[1]}"), str(other.ever()))
            elif doing[0] == "go":
                other.go(doing[1])
                self.assertEqual(book.tell(f"go {doing[1]}"), str(len(other.there())))
            else:
                words = "".join(f" {name} {what}" for name, what in doing[1].items())
                saying = other.say(doing[1])
                other.hear(doing[1], doing[2])
                self.assertEqual(book.tell("say" + words), str(saying))
                self.assertEqual(book.tell(f"so {doing[2]}{words}"), str(abs(saying - doing[2])))
            self.assertEqual(told_of(book), told_of(other))


class TellTest(BookTest):
    def assert_told(self, book, row, wanted):
        told = book.tell(row)
        self.assertEqual(told, wanted, row)
        self.assertIs(type(told), str)

    def test_by_hand(self):
        book = Book(1, 1, 2)
        self.assert_told(book, "come a", "1")
        self.assert_told(book, "come b", "2")
        self.assert_book(book, {"a": 1, "b": 1}, 1, 2)
        self.assert_told(book, "say a 0 b 1", "0")
        self.assert_book(book, {"a": 1, "b": 1}, 1, 2)
        self.assert_told(book, "so 1 a 0 b 1", "1")
        self.assert_book(book, {"a": 4, "b": 8}, 6, 2)
        self.assert_told(book, "say b 1 a 0", "1")
        self.assert_told(book, "go a", "1")
        self.assert_told(book, "come a", "3")
        self.assert_book(book, {"a": 6, "b": 8}, 6, 3)
        self.assert_told(book, "so 1 b 1", "0")
        self.assert_book(book, {"a": 24, "b": 32}, 24, 3)
        self.assert_told(book, "go b", "1")
        self.assert_told(book, "go a", "0")
        self.assert_book(book, {}, 24, 3)

    def test_no_names(self):
        book = Book(10, 1, 2)
        self.assert_told(book, "say", "0")
        self.assert_told(book, "so 0", "0")
        self.assert_told(book, "so 7", "7")
        self.assert_told(book, "so 10", "10")
        book = book_of(10, 1, 2, "a")
        self.assert_told(book, "say", "0")
        self.assert_told(book, "so 10", "10")
        tops, under = book.weights()
        self.assertEqual(tops, {"a": under})

    def test_above_the_scale_1(self):
        book = book_of(10, 1, 2, "a", "b", "c")
        self.assert_told(book, "say a 10 b 2 c 7", "7")
        self.assert_told(book, "say a 10 b 10", "10")
        self.assert_told(book, "so 2 a 10 b 10", "8")
        self.assert_told(book, "so 10 b 0", "10")

    def test_words_of_the_rows_as_names(self):
        book = Book(1, 1, 2)
        for number, name in enumerate(("come", "go", "say", "so")):
            self.assert_told(book, f"come {name}", str(number + 1))
        self.assert_told(book, "say say 1 so 1 come 1", "1")
        self.assert_told(book, "so 0 so 1", "1")
        self.assert_told(book, "go go", "3")
        self.assertEqual(book.there(), ("come", "say", "so"))

    def test_answers_of_two_figures(self):
        book = Book(10, 1, 2)
        for number, name in enumerate(names_of(24)):
            self.assert_told(book, f"come {name}", str(number + 1))
        row = " ".join(f"{name} 10" for name in names_of(24))
        self.assert_told(book, "say " + row, "10")
        self.assert_told(book, "so 0 " + row, "10")
        for number, name in enumerate(names_of(24)):
            self.assert_told(book, f"go {name}", str(23 - number))

    def refusing(self):
        """One that is new, and one with a and b there, both on the scale from 0 to 2."""
        book = book_of(2, 1, 3, "c", "a", "b")
        book.hear({"a": 2, "b": 0}, 1)
        book.go("c")
        return (Book(2, 1, 3), book)

    def test_what_is_no_row(self):
        for book in self.refusing():
            for row in NO_ROWS:
                self.assert_refused(book, NoRow, book.tell, row)

    def test_one_blank_more_or_fewer_at_each_place(self):
        book = self.refusing()[1]
        for row in ("come d", "go a", "say a 1 b 2", "so 1 a 1 b 2"):
            for place in range(len(row) + 1):
                if row[place:place + 1] == " " or place in (0, len(row)):
                    for sign in (" ", "  "):
                        self.assert_refused(book, NoRow, book.tell, row[:place] + sign + row[place:])

    def test_tabs_and_line_ends_in_the_place_of_a_blank(self):
        book = self.refusing()[1]
        for row in ("come d", "go a", "say a 1", "so 1 a 1", "so 1"):
            for place in [place for place, sign in enumerate(row) if sign == " "]:
                for sign in ("\t", "\n", "", ","):
                    self.assert_refused(book, NoRow, book.tell, row[:place] + sign + row[place + 1:])

    def test_words_that_are_no_names(self):
        words = [name for name in NO_NAMES if name != "" and " " not in name]
        for book in self.refusing():
            for word in words + [":", "-1", "01", "9" * 61, "a\tb", "a\n"]:
                for ahead in ("come", "go"):
                    self.assert_refused(book, NoName, book.tell, f"{ahead} {word}")
                for ahead in ("say", "so 1", "so 9"):
                    self.assert_refused(book, NoName, book.tell, f"{ahead} {word} 1")
                    self.assert_refused(book, NoName, book.tell, f"{ahead} {word} 9")

    def test_as_what_a_book_refuses(self):
        book = self.refusing()[1]
        for row in ("come a", "come b"):
            self.assert_refused(book, Twice, book.tell, row)
        for row in ("go c", "go d", "say c 1", "say a 1 d 1", "say d 1 a 1", "say d 9", "say a 9 d 1", "so 9 d 1",
                    "so 1 a 1 d 9", "so 9 a 9 d 9"):
            self.assert_refused(book, NoName, book.tell, row)
        for row in ("say a 3", "say b 1 a 3", "so 3", "so 3 a 1", "so 1 a 3", "so 1 b 1 a 10", "so 100 a 1"):
            self.assert_refused(book, NoTurn, book.tell, row)

    def test_numbers_of_60_figures(self):
        book = self.refusing()[1]
        for number in ("1" * 60, "9" * 60, "1" + "0" * 59, "1" * 59):
            self.assert_refused(book, NoTurn, book.tell, f"say a {number}")
            self.assert_refused(book, NoTurn, book.tell, f"so {number}")
            self.assert_refused(book, NoTurn, book.tell, f"so 1 a {number}")
            self.assert_refused(book, NoName, book.tell, f"so {number} d {number}")
            for longer in ("1" + number[:59] + "1", "0" + number):
                self.assert_refused(book, NoRow, book.tell, f"say a {longer}")
                self.assert_refused(book, NoRow, book.tell, f"so {longer}")
                self.assert_refused(book, NoRow, book.tell, f"so 1 d {longer}")

    def test_no_row_goes_ahead_of_all_others(self):
        book = self.refusing()[1]
        for row in ("come a b", "come A b", "go d d", "say d 1 a", "say A 01", "say d 9 d 9", "so 9 d",
                    "so 01 d 1", "so 9 d 1 d 1", "say d 1 a -1", "so " + "9" * 61 + " d 1"):
            self.assert_refused(book, NoRow, book.tell, row)

    def test_refused_or_not_it_goes_on_as_ever(self):
        book, other = self.refusing()[1], self.refusing()[1]
        for row in NO_ROWS + ("come a", "go d", "say a 3", "so 3"):
            with self.assertRaises(HeedError):
                book.tell(row)
        for row in ("come c", "so 1 a 0 b 2 c 1", "go a", "say b 0 c 2", "so 2 c 2"):
            self.assertEqual(book.tell(row), other.tell(row))
            self.assertEqual(told_of(book), told_of(other))


if __name__ == "__main__":
    unittest.main()
