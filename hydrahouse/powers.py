"""Powers of numbers."""

from hydrahouse.errors import TooGreat
from hydrahouse.forms import raised, whole, whole_part, without_whole
from hydrahouse.products import times
from hydrahouse.sums import minus

MOST_FACTORS = 24
MOST_PARTS = 24


def power(a, b):
    if b == ():
        return whole(1)
    if a == () or a == whole(1):
        return a
    if len(a) == 1 and a[0][0] != ():
        return power_of_part(a[0], b)
    if is_too_great(a, b):
        raise TooGreat("the power has too many factors, parts or figures")
    return times(endless_power(a, without_whole(b)), whole_power(a, whole_part(b)))


def power_of_part(part, b):
    # To multiply so many times would run too long: b's whole part has no bound here.
    many = part[1] if whole_part(b) > 0 else 1
    return raised(times(part[0], b), many)


def is_too_great(a, b):
    if whole_part(b) > MOST_FACTORS or len(a) > MOST_PARTS:
        return True
    return max([part[1] for part in a]) >= 10 ** 60


def endless_power(a, limit):
    # The limit may be 0 here, and the power is then w to 0.
    if a[0][0] == ():
        return raised(tuple([(minus(part[0], whole(1)), part[1]) for part in limit]))
    return raised(times(a[0][0], limit))


def whole_power(a, n):
    found = whole(1)
    for step in range(n):
        found = times(found, a)
    return found
