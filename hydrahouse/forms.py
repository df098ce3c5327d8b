"""Numbers as tuples of parts: what is one, which is the lesser, and what stands in them."""

from hydrahouse.errors import NoNumber


def is_whole(thing, least=0):
    # A truth is an int to Python, but no whole number here.
    return isinstance(thing, int) and not isinstance(thing, bool) and thing >= least


def is_number(thing):
    if not isinstance(thing, tuple):
        return False
    ahead = None
    for part in thing:
        if not is_part(part):
            return False
        if ahead is not None and compare(part[0], ahead) >= 0:
            return False
        ahead = part[0]
    return True


def is_part(thing):
    if not isinstance(thing, tuple) or len(thing) != 2:
        return False
    # The times are looked at first: they are settled at once, an exponent may go deep.
    return is_whole(thing[1], 1) and is_number(thing[0])


def whole(n):
    return raised((), n)


def endless():
    return raised(whole(1))


def raised(exponent, times=1):
    # The words name no value: what is refused may be of any kind, and too long to be written out.
    if not is_whole(times):
        raise NoNumber("a whole number from 0 on is asked for")
    if times == 0:
        return ()
    return ((exponent, times),)


def compare(a, b):
    if a == b:
        return 0
    # Python's own order of tuples is the order of numbers: the first unlike parts settle it,
    # by their exponents ahead of their times, and what ends first is the lesser one.
    return -1 if a < b else 1


def whole_part(a):
    # The exponents fall, so only the last part can have the exponent 0.
    if a == () or a[-1][0] != ():
        return 0
    return a[-1][1]


def without_whole(a):
    if whole_part(a) == 0:
        return a
    return a[:-1]


def is_limit(a):
    return a != () and whole_part(a) == 0


def greatest(a):
    found = 0
    for exponent, times in a:
        found = max(found, times, greatest(exponent))
    return found


def parts_in_all(a):
    found = len(a)
    for part in a:
        found = found + parts_in_all(part[0])
    return found


def deep(a):
    found = 0
    for part in a:
        found = max(found, deep(part[0]) + 1)
    return found
