"""A Weigher for advisers by names, who come and go."""

from heedwise.errors import NoName, NoRow, NoTurn, Twice
from heedwise.factors import times
from heedwise.rows import is_in_figures
from heedwise.rules import MOST_FIGURES, check_fraction, check_scale
from heedwise.turns import charge, is_on_scale
from heedwise.wholes import middle

LETTERS = "abcdefghijklmnopqrstuvwxyz"
MOST_LETTERS = 8


def is_name(name):
    if not isinstance(name, str) or not 1 <= len(name) <= MOST_LETTERS:
        return False
    return all([sign in LETTERS for sign in name])


def check_name(name):
    if not is_name(name):
        raise NoName("a name is of one to eight small letters")


def check_there(tops, name):
    if name not in tops:
        raise NoName(f"{name} is not there")


def check_speakers(tops, said):
    # What is no name goes first: among what is no text there may be no order.
    for name in said:
        check_name(name)
    for name in sorted(said):
        check_there(tops, name)


def check_numbers(scale, numbers):
    if not all([is_on_scale(scale, number) for number in numbers]):
        raise NoTurn(0)


def words_of(row):
    words = row.split(" ")
    if "" in words:
        raise NoRow(0)
    return words


def number_of(word):
    if not is_in_figures(MOST_FIGURES, word):
        raise NoRow(0)
    return int(word)


def said_of(words):
    if len(words) % 2 == 1:
        raise NoRow(0)
    said = {}
    for name, word in zip(words[::2], words[1::2]):
        if name in said:
            raise NoRow(0)
        said[name] = number_of(word)
    return said


class Book:
    def __init__(self, scale, top, bottom):
        check_scale(scale)
        check_fraction(top, bottom)
        self.scale = scale
        self.top = top
        self.bottom = bottom
        self.tops = {}
        self.under = 1
        self.came = 0

    def come(self, name):
        check_name(name)
        if name in self.tops:
            raise Twice(f"{name} is there")
        self.tops[name] = self.under
        self.came = self.came + 1

    def go(self, name):
        check_name(name)
        check_there(self.tops, name)
        self.tops.pop(name)

    def there(self):
        return tuple(sorted(self.tops))

    def ever(self):
        return self.came

    def weights(self):
        return (dict(self.tops), self.under)

    def say(self, said):
        check_speakers(self.tops, said)
        check_numbers(self.scale, list(said.values()))
        return middle(tuple(said.values()), tuple([self.tops[name] for name in said]))

    def charge_for(self, said, so):
        saying = self.say(said)
        check_numbers(self.scale, [so])
        return charge(saying, so)

    def hear(self, said, so):
        own = self.charge_for(said, so)
        behind = {}
        for name, kept in self.tops.items():
            behind[name] = kept * times(self, own, said.get(name), so)
        self.tops = behind
        self.under = self.under * times(self, own, None, so)

    def tell(self, row):
        words = words_of(row)
        if words[0] == "come" and len(words) == 2:
            return self.tell_come(words[1])
        if words[0] == "go" and len(words) == 2:
            return self.tell_go(words[1])
        if words[0] == "say":
            return str(self.say(said_of(words[1:])))
        if words[0] == "so" and len(words) > 1:
            return self.tell_so(said_of(words[2:]), number_of(words[1]))
        raise NoRow(0)

    def tell_come(self, name):
        self.come(name)
        return str(self.ever())

    def tell_go(self, name):
        self.go(name)
        return str(len(self.there()))

    def tell_so(self, said, so):
        own = self.charge_for(said, so)
        self.hear(said, so)
        return str(own)
