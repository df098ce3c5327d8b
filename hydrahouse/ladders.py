"""Ladders: how limits are climbed to, and ways down by their rungs."""

from hydrahouse.errors import NoLimit, NoNumber, Nought, TooHigh
from hydrahouse.forms import compare, is_limit, is_whole, raised
from hydrahouse.sums import minus


def ladder(a, n):
    if a == ():
        raise Nought("0 has no ladder")
    if not is_whole(n):
        raise NoNumber("a rung is told by a whole number from 0 on")
    exponent = a[-1][0]
    if exponent == ():
        return one_part_less(a)
    if is_limit(exponent):
        return one_part_less(a) + raised(ladder(exponent, n))
    return one_part_less(a) + raised(one_part_less(exponent), n)


def one_part_less(a):
    # a with its last part once less: all that stays stays on each rung
    last = a[-1]
    return a[:-1] + raised(last[0], last[1] - 1)


def rung(a, b):
    if not is_limit(a):
        raise NoLimit("only a limit is climbed to")
    if compare(b, a) >= 0:
        raise TooHigh("what is to be passed is not below the limit")
    exponent = a[-1][0]
    foot = one_part_less(a)
    order = compare(b, foot)
    if is_limit(exponent):
        # Every rung is above the foot; else the first exponents alone settle which is the lesser one.
        return 0 if order <= 0 else rung(exponent, minus(b, foot)[0][0])
    if order < 0:
        return 0
    return times_within(minus(b, foot), one_part_less(exponent)) + 1


def times_within(a, exponent):
    # how many times w to the exponent goes into a, which has no exponent above it
    if a == () or a[0][0] != exponent:
        return 0
    return a[0][1]


def way_down(a, rule, most=20):
    found = [a]
    while found[-1] != () and len(found) <= most:
        found.append(ladder(found[-1], rule(len(found) - 1)))
    return found
