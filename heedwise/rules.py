"""What a hand may be made of; all else is refused with NoRule."""

from heedwise.errors import NoRule
from heedwise.wholes import is_whole

MOST_ADVISERS = 24
MOST_SCALE = 10
MOST_BOTTOM = 100


def check_within(what, value, least, most):
    if not is_whole(value) or not least <= value <= most:
        raise NoRule(f"{what} is no whole number that may stand there")


def check_making(many, scale):
    check_within("many", many, 1, MOST_ADVISERS)
    check_within("scale", scale, 1, MOST_SCALE)


def check_fraction(top, bottom):
    # Bottom goes first: what top may be is known only when bottom is a whole number.
    check_within("bottom", bottom, 1, MOST_BOTTOM)
    check_within("top", top, 0, bottom - 1)
