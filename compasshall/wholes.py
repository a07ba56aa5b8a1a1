"""Whole numbers: what they are, how many figures they have, the greatest common divisor and the whole root."""

from compasshall.errors import Below


def is_whole(thing):
    return isinstance(thing, int) and not isinstance(thing, bool)


def are_wholes(thing, many):
    return isinstance(thing, tuple) and len(thing) == many and all([is_whole(one) for one in thing])


def ten_times_itself(many):
    product = 1
    for time in range(many):
        product *= 10
    return product


def has_more_figures(n, many):
    return abs(n) >= ten_times_itself(many)


def common(a, b):
    one = abs(a)
    other = abs(b)
    while other != 0:
        rest = one % other
        one = other
        other = rest
    return one


def whole_root(n):
    if n < 0:
        raise Below("a number below nought has no whole root")
    # The first guess is not below the root, and no later one falls below it:
    # so the first one whose square is not above n is the root.
    guess = 1 << ((n.bit_length() + 1) // 2)
    while guess * guess > n:
        guess = (guess + n // guess) // 2
    return guess
