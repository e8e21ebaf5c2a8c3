"""What a new hand says for turns, the paper of a Weigher, and how often a hand can have erred."""

from heedwise.turns import charge, check_turns
from heedwise.wholes import power


def ran(hand, turns):
    check_turns(hand.many, hand.scale, turns)
    runner = hand.anew()
    sayings = []
    for said, so in turns:
        sayings.append(runner.say(said))
        runner.hear(said, so)
    return tuple(sayings)


def paper(weigher, turns):
    check_turns(weigher.many, weigher.scale, turns)
    runner = weigher.anew()
    lines = []
    for said, so in turns:
        saying = runner.say(said)
        runner.hear(said, so)
        lines.append((saying, charge(saying, so)) + runner.total())
    return tuple(lines)


def has_greatest(top, bottom, own):
    # Where erring takes all of a weight, or nothing of it, each number of the hand's errors will do.
    return top < bottom and (top > 0 or own == 0)


def most_errors(many, top, bottom, own):
    if not has_greatest(top, bottom, own):
        return None
    errors = 0
    kept = power(top, own) * 2 * bottom
    bound = many * power(bottom, own) * (bottom + top)
    while kept <= bound:
        errors = errors + 1
        kept = kept * 2 * bottom
        bound = bound * (bottom + top)
    return errors
