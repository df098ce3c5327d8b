"""Products of numbers, and what undoes them."""

from hydrahouse.errors import Nought
from hydrahouse.forms import compare, raised, whole, whole_part, without_whole
from hydrahouse.sums import merged, minus, plus


def times(a, b):
    if a == () or b == ():
        return ()
    exponent = a[0][0]
    parts = [(plus(exponent, part[0]), part[1]) for part in without_whole(b)]
    many = whole_part(b)
    if many == 0:
        return tuple(parts)
    return tuple(parts) + ((exponent, a[0][1] * many),) + a[1:]


def divided(a, b):
    if b == ():
        raise Nought("nothing is divided by 0")
    exponent = b[0][0]
    quotient = []
    above = 0
    # b * (w to x) is w to (b's first exponent + x): so each part of a above that exponent is met without a rest.
    while above < len(a) and compare(a[above][0], exponent) > 0:
        quotient.append((minus(a[above][0], exponent), a[above][1]))
        above = above + 1
    left = a[above:]
    many = how_often(left, b)
    return (tuple(quotient) + whole(many), minus(left, times(b, whole(many))))


def how_often(a, b):
    # The greatest n with b * n not above a, where a's first exponent is not above b's.
    if a == () or a[0][0] != b[0][0]:
        return 0
    many = a[0][1] // b[0][1]
    # b's other parts stand behind b * n once: where the first part is met without a rest, they may be too much.
    if many > 0 and compare(times(b, whole(many)), a) > 0:
        return many - 1
    return many


def woven(a, b):
    found = {}
    others = by_endless(b)
    for mine in by_endless(a):
        for other in others:
            weave_wholes(found.setdefault(merged(mine[0], other[0]), {}), mine[1], other[1])
    parts = []
    # Python's own order of tuples is the order of numbers.
    for exponent in sorted(found, reverse=True):
        for n in sorted(found[exponent], reverse=True):
            parts.append((exponent + whole(n), found[exponent][n]))
    return tuple(parts)


def by_endless(a):
    # Parts whose exponents are the same but for the whole part stand together, as pairs (whole part, times):
    # to weave these is to add whole numbers, and only what they share need be merged.
    groups = []
    for exponent, many in a:
        shared = without_whole(exponent)
        if groups == [] or groups[-1][0] != shared:
            groups.append((shared, []))
        groups[-1][1].append((whole_part(exponent), many))
    return groups


def weave_wholes(found, some, others):
    for n, many in some:
        for m, more in others:
            found[n + m] = found.get(n + m, 0) + many * more


def factors(a):
    if a == ():
        raise Nought("0 has no factors")
    found = []
    behind = ()
    for exponent, many in reversed(a):
        if behind != ():
            found.append(raised(minus(exponent, behind[0])) + whole(1))
        elif exponent != ():
            found.append(raised(exponent))
        if many > 1:
            found.append(whole(many))
        behind = (exponent, many)
    return found
