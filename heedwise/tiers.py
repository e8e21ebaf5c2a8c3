"""A hand whose advisers are hands: a head heeds what these say to what the advisers say."""

from heedwise.errors import NoRule
from heedwise.hands import Hand
from heedwise.turns import charge, check_said, check_turn


def are_alike(hands):
    if not isinstance(hands, tuple) or len(hands) == 0:
        return False
    if not all([isinstance(hand, Hand) for hand in hands]):
        return False
    return all([hand.many == hands[0].many and hand.scale == hands[0].scale for hand in hands])


def is_head(hands, head):
    return isinstance(head, Hand) and head.many == len(hands) and head.scale == hands[0].scale


def check_tier(hands, head):
    if not are_alike(hands) or not is_head(hands, head):
        raise NoRule("these are no hands that are alike, with a head for them")


class Tier(Hand):
    def __init__(self, hands, head):
        check_tier(hands, head)
        Hand.__init__(self, hands[0].many, hands[0].scale)
        self.hands = tuple([hand.anew() for hand in hands])
        self.head = head.anew()
        self.charged = (0,) * len(hands)

    def hand_charges(self):
        return self.charged

    def ask(self, said):
        return tuple([hand.say(said) for hand in self.hands])

    def say(self, said):
        check_said(self.many, self.scale, said)
        return self.head.say(self.ask(said))

    def hear(self, said, so):
        check_turn(self.many, self.scale, said, so)
        sayings = self.ask(said)
        self.head.hear(sayings, so)
        for hand in self.hands:
            hand.hear(said, so)
        self.charged = tuple([charged + charge(saying, so) for charged, saying in zip(self.charged, sayings)])

    def anew(self):
        return Tier(self.hands, self.head)
