"""What weights are taken times in a turn. A keeper of weights, a Weigher or a Book, has scale, top and bottom."""

from heedwise.turns import charge
from heedwise.wholes import power


def times_awake(keeper, own, off):
    kept = power(keeper.top, off) * power(keeper.bottom, keeper.scale - off)
    return kept * 2 * power(keeper.bottom, own)


def times_asleep(keeper, own):
    # Also what the number under is taken times: so the weight of one that sleeps stays.
    return power(keeper.bottom, keeper.scale) * (power(keeper.bottom, own) + power(keeper.top, own))


def times(keeper, own, what, so):
    if what is None:
        return times_asleep(keeper, own)
    return times_awake(keeper, own, charge(what, so))
