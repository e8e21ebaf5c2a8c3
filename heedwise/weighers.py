"""A hand that lessens an adviser's weight by what it is off by, in exact whole numbers."""

from heedwise.factors import times, times_asleep
from heedwise.hands import Hand
from heedwise.rules import check_fraction
from heedwise.turns import charge, check_turn


class Weigher(Hand):
    def __init__(self, many, scale, top, bottom):
        check_fraction(top, bottom)
        Hand.__init__(self, many, scale)
        self.top = top
        self.bottom = bottom
        self.tops = (1,) * many
        self.under = 1

    def heeded(self):
        return self.tops

    def weights(self):
        return (self.tops, self.under)

    def total(self):
        return (sum(self.tops), self.under)

    def weigh(self, said, so):
        own = charge(self.say(said), so)
        self.tops = tuple([kept * times(self, own, what, so) for kept, what in zip(self.tops, said)])
        self.under = self.under * times_asleep(self, own)

    def hear(self, said, so):
        check_turn(self.many, self.scale, said, so)
        self.weigh(said, so)

    def anew(self):
        return Weigher(self.many, self.scale, self.top, self.bottom)
