"""Sums of numbers, and what undoes them."""

from hydrahouse.errors import TooHigh
from hydrahouse.forms import compare


def plus(a, b):
    if b == ():
        return a
    exponent = b[0][0]
    stay = parts_above(a, exponent)
    if stay < len(a) and a[stay][0] == exponent:
        both = (exponent, a[stay][1] + b[0][1])
        return a[:stay] + (both,) + b[1:]
    return a[:stay] + b


def parts_above(a, exponent):
    # By halving, as exponents fall: a long sum is then not walked anew for each number put behind it.
    low = 0
    high = len(a)
    while low < high:
        middle = (low + high) // 2
        if compare(a[middle][0], exponent) > 0:
            low = middle + 1
        else:
            high = middle
    return low


def total(some):
    found = ()
    for number in some:
        found = plus(found, number)
    return found


def minus(a, b):
    if compare(b, a) > 0:
        raise TooHigh("what is taken away is above what it is taken from")
    alike = parts_alike(a, b)
    rest = a[alike:]
    if alike == len(b) or rest[0][0] != b[alike][0]:
        return rest
    # b is not above a, so here a has the greater times.
    return ((rest[0][0], rest[0][1] - b[alike][1]),) + rest[1:]


def parts_alike(a, b):
    alike = 0
    while alike < len(a) and alike < len(b) and a[alike] == b[alike]:
        alike = alike + 1
    return alike


def merged(a, b):
    parts = []
    i = 0
    j = 0
    while i < len(a) and j < len(b):
        order = compare(a[i][0], b[j][0])
        if order > 0:
            parts.append(a[i])
        elif order < 0:
            parts.append(b[j])
        else:
            parts.append((a[i][0], a[i][1] + b[j][1]))
        if order >= 0:
            i = i + 1
        if order <= 0:
            j = j + 1
    return tuple(parts) + a[i:] + b[j:]


def common(a, b):
    if a == () and b == ():
        return ((), 0, 0)
    if b == ():
        return (a, 1, 0)
    if a == ():
        return (b, 0, 1)
    # To add a number to itself only makes its first times greater,
    # so two that are g so many times differ there alone.
    if a[0][0] != b[0][0] or a[1:] != b[1:]:
        return None
    shared = greatest_divisor(a[0][1], b[0][1])
    g = ((a[0][0], shared),) + a[1:]
    return (g, a[0][1] // shared, b[0][1] // shared)


def greatest_divisor(n, m):
    while m != 0:
        rest = n % m
        n = m
        m = rest
    return n
