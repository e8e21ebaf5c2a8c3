"""A plain hand, which heeds all advisers alike; the other hands stand under it."""

from heedwise.rules import check_making
from heedwise.turns import awake_in, check_said, check_turn
from heedwise.wholes import middle


def middle_awake(said, weights):
    awake = awake_in(said)
    return middle(tuple([said[adviser] for adviser in awake]), tuple([weights[adviser] for adviser in awake]))


class Hand:
    def __init__(self, many, scale):
        check_making(many, scale)
        self.many = many
        self.scale = scale

    def heeded(self):
        return (1,) * self.many

    def say(self, said):
        check_said(self.many, self.scale, said)
        return middle_awake(said, self.heeded())

    def hear(self, said, so):
        check_turn(self.many, self.scale, said, so)

    def anew(self):
        return Hand(self.many, self.scale)
