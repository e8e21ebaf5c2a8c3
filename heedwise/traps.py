"""Rows of turns in each of which a new hand errs."""

from heedwise.errors import NoWay


def trap_following(follower, many_turns):
    runner = follower.anew()
    turns = []
    for number in range(many_turns):
        # What is heeded serves as what is said: the one that is followed says 1 and errs, the others say 0.
        said = runner.heeded()
        runner.hear(said, 0)
        turns.append((said, 0))
    return tuple(turns)


def parted(many, scale):
    return tuple([0 if adviser % 2 == 0 else scale for adviser in range(many)])


def trap(hand, many_turns):
    if hand.many == 1:
        raise NoWay("one adviser alone can't be parted in two")
    runner = hand.anew()
    said = parted(hand.many, hand.scale)
    turns = []
    for number in range(many_turns):
        so = hand.scale if runner.say(said) == 0 else 0
        runner.hear(said, so)
        turns.append((said, so))
    return tuple(turns)
