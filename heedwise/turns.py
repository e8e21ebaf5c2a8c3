"""Turns: what one is, how others are refused, and what is charged in them."""

from heedwise.errors import NoTurn
from heedwise.wholes import is_whole


def is_on_scale(scale, value):
    return is_whole(value) and 0 <= value <= scale


def is_said(many, scale, said):
    if not isinstance(said, tuple) or len(said) != many:
        return False
    return all([what is None or is_on_scale(scale, what) for what in said])


def is_turn(many, scale, turn):
    if not isinstance(turn, tuple) or len(turn) != 2:
        return False
    return is_said(many, scale, turn[0]) and is_on_scale(scale, turn[1])


def check_said(many, scale, said):
    if not is_said(many, scale, said):
        raise NoTurn(0)


def check_turn(many, scale, said, so):
    if not is_turn(many, scale, (said, so)):
        raise NoTurn(0)


def check_turns(many, scale, turns):
    if not isinstance(turns, tuple):
        raise NoTurn(0)
    for number, turn in enumerate(turns):
        if not is_turn(many, scale, turn):
            raise NoTurn(number)


def awake_in(said):
    return [adviser for adviser, what in enumerate(said) if what is not None]


def charge(what, so):
    if what is None:
        return 0
    return abs(what - so)


def charges_of(adviser, turns):
    return [charge(said[adviser], so) for said, so in turns]


def charges(many, turns):
    return tuple([sum(charges_of(adviser, turns)) for adviser in range(many)])


def count_errors(turn_charges):
    return len([one for one in turn_charges if one > 0])


def erred(many, turns):
    return tuple([count_errors(charges_of(adviser, turns)) for adviser in range(many)])


def own_charges(adviser, turns, sayings):
    return [
        charge(saying, turn[1])
        for turn, saying in zip(turns, sayings)
        if turn[0][adviser] is not None
    ]


def own_errors(many, turns, sayings):
    return tuple([count_errors(own_charges(adviser, turns, sayings)) for adviser in range(many)])
