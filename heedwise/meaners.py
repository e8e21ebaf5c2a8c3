"""The weighted mean of what advisers say, of whom none sleeps; it is no hand, since a mean may lie between numbers."""

from heedwise.errors import NoTurn
from heedwise.rules import check_fraction, check_making
from heedwise.turns import charge, check_said, check_turn
from heedwise.wholes import counted


def check_none_sleeps(said):
    if None in said:
        raise NoTurn(0)


class Meaner:
    def __init__(self, many, scale, top, bottom):
        check_making(many, scale)
        check_fraction(top, bottom)
        self.many = many
        self.scale = scale
        self.top = top
        self.bottom = bottom
        self.tops = (1,) * many
        self.under = 1

    def weights(self):
        return (self.tops, self.under)

    def mean(self, said):
        check_said(self.many, self.scale, said)
        check_none_sleeps(said)
        shares = counted(self.tops)
        return (sum([share * what for share, what in zip(shares, said)]), sum(shares))

    def hear(self, said, so):
        check_turn(self.many, self.scale, said, so)
        check_none_sleeps(said)
        whole = self.scale * self.bottom
        less = self.bottom - self.top
        self.tops = tuple([kept * (whole - charge(what, so) * less) for kept, what in zip(self.tops, said)])
        self.under = self.under * whole

    def anew(self):
        return Meaner(self.many, self.scale, self.top, self.bottom)
