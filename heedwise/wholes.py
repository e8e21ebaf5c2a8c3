"""Whole numbers: what one is, powers, halvings, and the middle by weights."""


def is_whole(value):
    # A truth is an int to Python, but no whole number here.
    return isinstance(value, int) and not isinstance(value, bool)


def power(base, exponent):
    product = 1
    for step in range(exponent):
        product = product * base
    return product


def halvings(count):
    times = 0
    left = count
    while left > 1:
        left = left // 2
        times = times + 1
    return times


def counted(weights):
    # Without any weight there would be no half to reach: so each counts alike.
    if sum(weights) == 0:
        return [1 for weight in weights]
    return list(weights)


def middle(numbers, weights):
    shares = counted(weights)
    whole = sum(shares)
    reached = 0
    # A number that stands several times may be met ahead of its last place:
    # the rest of its weight would only add to the half that is reached.
    for number, share in sorted(zip(numbers, shares)):
        reached = reached + share
        if 2 * reached >= whole:
            return number
    return 0
