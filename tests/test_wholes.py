import itertools
import unittest

from heedwise.wholes import halvings, is_whole, middle, power

GREAT = 987654321098765432109876543210987654321098765432109876543210
GREATEST = 10 ** 60 - 1


def plain_middle(numbers, weights):
    """The words of the document, taken one by one."""
    if not numbers:
        return 0
    if not any(weights):
        weights = (1,) * len(numbers)
    pairs = list(zip(numbers, weights))

    def up_to(number):
        return sum(weight for other, weight in pairs if other <= number)

    return min(number for number in numbers if 2 * up_to(number) >= sum(weights))


class WholeTest(unittest.TestCase):
    def test_a_whole_number_is_an_int_that_is_no_truth(self):
        for value in (0, 1, -1, GREATEST, -GREATEST):
            self.assertIs(is_whole(value), True)
        for value in (True, False, None, "", "1", (), (1,), [], [1]):
            self.assertIs(is_whole(value), False)


class PowerTest(unittest.TestCase):
    def test_exponent_0_is_1_also_of_0(self):
        for base in (0, 1, 2, 100, GREAT, GREATEST):
            self.assertEqual(power(base, 0), 1)

    def test_exponent_1_is_the_base(self):
        for base in (0, 1, 2, 100, GREAT, GREATEST):
            self.assertEqual(power(base, 1), base)

    def test_bases_0_and_1(self):
        for exponent in (1, 2, 3, 10, 999, 1000):
            self.assertEqual(power(0, exponent), 0)
            self.assertEqual(power(1, exponent), 1)

    def test_ordinary_ones(self):
        self.assertEqual(power(2, 10), 1024)
        self.assertEqual(power(3, 4), 81)
        self.assertEqual(power(10, 3), 1000)

    def test_as_python_reckons_it(self):
        for base in range(13):
            for exponent in range(41):
                self.assertEqual(power(base, exponent), base ** exponent)

    def test_great_exponents_and_bases(self):
        for base in (2, 3, 10, 100, GREAT, GREATEST):
            for exponent in (2, 60, 511, 512, 513, 999, 1000, 1003):
                self.assertEqual(power(base, exponent), base ** exponent)

    def test_its_kind(self):
        for base, exponent in ((0, 0), (0, 5), (1, 0), (7, 3)):
            self.assertIs(type(power(base, exponent)), int)


class HalvingsTest(unittest.TestCase):
    def test_the_first_ones(self):
        told = [halvings(count) for count in range(1, 18)]
        self.assertEqual(told, [0, 1, 1, 2, 2, 2, 2, 3, 3, 3, 3, 3, 3, 3, 3, 4, 4])

    def test_twos_and_their_neighbours(self):
        for times in range(1, 210):
            count = 2 ** times
            self.assertEqual(halvings(count), times)
            self.assertEqual(halvings(count - 1), times - 1)
            self.assertEqual(halvings(count + 1), times)

    def test_counts_of_60_figures(self):
        for count in (10 ** 59, GREAT, GREATEST):
            times = halvings(count)
            self.assertLessEqual(2 ** times, count)
            self.assertGreater(2 ** (times + 1), count)

    def test_its_kind(self):
        for count in (1, 2, 24, GREAT):
            self.assertIs(type(halvings(count)), int)


class MiddleTest(unittest.TestCase):
    def test_ordinary_ones(self):
        self.assertEqual(middle((5,), (3,)), 5)
        self.assertEqual(middle((5, 1, 3), (1, 1, 1)), 3)
        self.assertEqual(middle((1, 2, 3), (1, 1, 3)), 3)
        self.assertEqual(middle((1, 2, 3), (4, 1, 2)), 1)
        self.assertEqual(middle((10, 0, 4, 6), (2, 3, 1, 5)), 6)

    def test_no_numbers(self):
        self.assertEqual(middle((), ()), 0)
        self.assertIs(type(middle((), ())), int)

    def test_just_half_is_enough(self):
        self.assertEqual(middle((0, 1), (1, 1)), 0)
        self.assertEqual(middle((1, 0), (7, 7)), 0)
        self.assertEqual(middle((1, 2, 3), (1, 2, 3)), 2)
        self.assertEqual(middle((0, 1), (GREAT, GREAT)), 0)

    def test_one_less_than_half_is_not(self):
        self.assertEqual(middle((0, 1), (1, 2)), 1)
        self.assertEqual(middle((0, 1), (GREAT, GREAT + 1)), 1)
        self.assertEqual(middle((0, 1), (GREAT + 1, GREAT)), 0)

    def test_a_number_that_stands_several_times(self):
        self.assertEqual(middle((2, 7, 2), (2, 3, 2)), 2)
        self.assertEqual(middle((2, 7, 2, 7), (1, 3, 1, 1)), 7)
        self.assertEqual(middle((4, 4, 4), (1, 0, 9)), 4)

    def test_weights_0_among_others(self):
        self.assertEqual(middle((0, 5), (0, 1)), 5)
        self.assertEqual(middle((0, 5, 9), (0, 1, 0)), 5)
        self.assertEqual(middle((1, 2, 3), (1, 0, 1)), 1)
        self.assertEqual(middle((1, 2, 3, 4), (0, 0, 0, 2)), 4)

    def test_all_weights_0_count_1_each(self):
        self.assertEqual(middle((3, 1, 2), (0, 0, 0)), 2)
        self.assertEqual(middle((4, 1), (0, 0)), 1)
        self.assertEqual(middle((6, 6, 1), (0, 0, 0)), 6)
        self.assertEqual(middle((9,), (0,)), 9)

    def test_great_weights(self):
        heap = 7 ** 5000
        self.assertEqual(middle((0, 1, 2), (heap, heap, 1)), 1)
        self.assertEqual(middle((0, 1, 2), (heap, 1, heap - 1)), 0)
        self.assertEqual(middle((0, 1, 2), (heap - 2, 1, heap)), 2)
        self.assertEqual(middle((0, 1, 2), (heap - 1, 1, heap)), 1)

    def test_a_hundred_numbers(self):
        numbers = tuple(37 * place % 101 for place in range(1, 101))
        self.assertEqual(middle(numbers, (1,) * 100), 50)
        self.assertEqual(middle(numbers, (0,) * 100), 50)
        self.assertEqual(middle(numbers, numbers), plain_middle(numbers, numbers))

    def test_the_words_of_the_document(self):
        for count in range(5):
            for numbers in itertools.product(range(3), repeat=count):
                for weights in itertools.product(range(4), repeat=count):
                    self.assertEqual(middle(numbers, weights), plain_middle(numbers, weights))

    def test_below_less_than_half_and_above_half_at_most(self):
        for numbers in itertools.product((0, 1, 4, 9), repeat=4):
            for weights in ((1, 2, 3, 4), (0, 5, 0, 5), (GREAT, 1, 1, GREAT), (3, 0, 0, 2)):
                told = middle(numbers, weights)
                below = sum(weight for number, weight in zip(numbers, weights) if number < told)
                above = sum(weight for number, weight in zip(numbers, weights) if number > told)
                self.assertLess(2 * below, sum(weights))
                self.assertLessEqual(2 * above, sum(weights))

    def test_the_order_changes_nothing(self):
        cases = (
            ((3, 1, 2, 2, 9), (1, 2, 3, 0, 4)),
            ((0, 0, 5, 5, 5), (4, 3, 2, 5, 0)),
            ((7, 3, 8, 1, 0), (0, 0, 0, 0, 0)),
            ((7, 3, 8, 1, 0), (GREAT, GREATEST, 0, 1, GREAT)),
        )
        for numbers, weights in cases:
            told = middle(numbers, weights)
            for pairs in itertools.permutations(zip(numbers, weights)):
                turned = tuple(zip(*pairs))
                self.assertEqual(middle(turned[0], turned[1]), told)

    def test_asked_again_it_tells_the_same(self):
        numbers = (3, 1, 2)
        weights = (0, 0, 0)
        self.assertEqual([middle(numbers, weights) for again in range(3)], [2, 2, 2])
        self.assertEqual((numbers, weights), ((3, 1, 2), (0, 0, 0)))


if __name__ == "__main__":
    unittest.main()
