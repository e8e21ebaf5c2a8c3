"""A Weigher whose advisers give away a share of their weights in each turn, so that each can come back."""

from heedwise.rules import check_share
from heedwise.turns import check_turn
from heedwise.weighers import Weigher


class Shifter(Weigher):
    def __init__(self, many, scale, top, bottom, share, parts):
        check_share(share, parts)
        Weigher.__init__(self, many, scale, top, bottom)
        self.share = share
        self.parts = parts

    def deal(self):
        dealt = self.share * sum(self.tops)
        kept = self.many * (self.parts - self.share)
        self.tops = tuple([one * kept + dealt for one in self.tops])
        self.under = self.under * self.many * self.parts

    def hear(self, said, so):
        check_turn(self.many, self.scale, said, so)
        self.weigh(said, so)
        self.deal()

    def anew(self):
        return Shifter(self.many, self.scale, self.top, self.bottom, self.share, self.parts)
