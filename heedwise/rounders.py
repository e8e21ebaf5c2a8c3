"""A hand that heeds, in each round, those advisers that have not erred in it."""

from heedwise.hands import Hand
from heedwise.turns import charge, check_turn


class Rounder(Hand):
    def __init__(self, many, scale):
        Hand.__init__(self, many, scale)
        self.inside = (True,) * many
        self.over = 0

    def ins(self):
        return self.inside

    def rounds(self):
        return self.over

    def heeded(self):
        return tuple([1 if one else 0 for one in self.inside])

    def hear(self, said, so):
        check_turn(self.many, self.scale, said, so)
        left = tuple([one and charge(what, so) == 0 for one, what in zip(self.inside, said)])
        if any(left):
            self.inside = left
        else:
            self.inside = (True,) * self.many
            self.over = self.over + 1

    def anew(self):
        return Rounder(self.many, self.scale)
