"""Growing bases: whole numbers written by a base, what is worth how much at one, and rows that fall."""

from hydrahouse.errors import NoFit, NoNumber, Nought, TooGreat
from hydrahouse.forms import greatest, is_whole
from hydrahouse.ladders import one_part_less

MOST_EXPONENT = 200


def written(m, base=2):
    if not is_whole(m) or not is_whole(base, 2):
        raise NoNumber("a whole number from 0 on is written by a base from 2 on")
    parts = []
    left = m
    exponent = 0
    while left > 0:
        if left % base > 0:
            parts.append((written(exponent, base), left % base))
        left = left // base
        exponent = exponent + 1
    return tuple(reversed(parts))


def fits(a, base):
    return greatest(a) < base


def worth(a, base):
    found = 0
    for exponent, times in a:
        found = small_enough(found + times * to_the(base, worth(exponent, base)))
    return found


def to_the(base, n):
    # By doubling the exponent, so that what would be far too great is met within a few steps.
    found = 1
    for place in range(n.bit_length() - 1, -1, -1):
        found = found * found
        if (n >> place) % 2 == 1:
            found = found * base
        small_enough(found)
    return found


def small_enough(n):
    if n >= (10 ** 60) ** 10:
        raise TooGreat("the worth would be 10 ** 600 or more")
    return n


def down(a, base):
    if a == ():
        raise Nought("nothing is one down from 0")
    if not fits(a, base):
        raise NoFit("a whole number in it is not below the base")
    # An exponent 0 is worth 0: then no part comes behind.
    size = worth(a[-1][0], base)
    if size > MOST_EXPONENT:
        raise TooGreat("one down would have too many parts")
    return one_part_less(a) + tuple([(written(j, base), base - 1) for j in range(size - 1, -1, -1)])


def row(m, base=2, most=20):
    found = [(base, written(m, base))]
    while found[-1][1] != () and len(found) <= most:
        grown = found[-1][0] + 1
        found.append((grown, down(found[-1][1], grown)))
    return found
