"""A hand that heeds the best adviser up to now, and how often it can have erred."""

from heedwise.hands import Hand
from heedwise.rules import check_push
from heedwise.turns import awake_in, charge, check_said, check_turn


def push_of(many, push):
    if push is None:
        return (0,) * many
    check_push(many, push)
    return push


def first_least(scores, advisers):
    # Of pairs with the same score the one with the lower number is the least: so the first one is told.
    return min([(scores[adviser], adviser) for adviser in advisers])[1]


class Follower(Hand):
    def __init__(self, many, scale, push=None):
        Hand.__init__(self, many, scale)
        self.push = push_of(many, push)
        self.reached = self.push

    def scores(self):
        return self.reached

    def heeded(self):
        best = first_least(self.reached, list(range(self.many)))
        return tuple([1 if adviser == best else 0 for adviser in range(self.many)])

    def say(self, said):
        check_said(self.many, self.scale, said)
        awake = awake_in(said)
        if len(awake) == 0:
            return 0
        return said[first_least(self.reached, awake)]

    def hear(self, said, so):
        check_turn(self.many, self.scale, said, so)
        self.reached = tuple([score + charge(what, so) for score, what in zip(self.reached, said)])

    def anew(self):
        return Follower(self.many, self.scale, self.push)


def most_following(push, least):
    counted = sum([least - one + 1 for one in push if one <= least])
    return max(counted - 1, 0)
