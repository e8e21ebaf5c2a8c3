"""What hands, Meaners and Books may be made of; all else is refused with NoRule."""

from heedwise.errors import NoRule
from heedwise.wholes import is_whole, power

MOST_ADVISERS = 24
MOST_SCALE = 10
MOST_BOTTOM = 100
MOST_PARTS = 100
MOST_FIGURES = 60


def check_within(what, value, least, most):
    if not is_whole(value) or not least <= value <= most:
        raise NoRule(f"{what} is no whole number that may stand there")


def check_scale(scale):
    check_within("scale", scale, 1, MOST_SCALE)


def check_making(many, scale):
    check_within("many", many, 1, MOST_ADVISERS)
    check_scale(scale)


def check_fraction(top, bottom):
    # Bottom goes first: what top may be is known only when bottom is a whole number.
    check_within("bottom", bottom, 1, MOST_BOTTOM)
    check_within("top", top, 0, bottom - 1)


def check_push(many, push):
    if not isinstance(push, tuple) or len(push) != many:
        raise NoRule("push is no tuple with one for each adviser")
    for one in push:
        check_within("push", one, 0, power(10, MOST_FIGURES) - 1)


def check_share(share, parts):
    # Parts goes first, as bottom does.
    check_within("parts", parts, 1, MOST_PARTS)
    check_within("share", share, 1, parts - 1)
