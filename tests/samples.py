"""Numbers for the tests, written out as tuples, so that they hang on no function of the program."""

ZERO = ()
ONE = (((), 1),)
TWO = (((), 2),)
FIVE = (((), 5),)
W = ((ONE, 1),)
W_W = ((W, 1),)

# Each one is below the next one.
RISING = [
    ZERO,
    ONE,
    TWO,
    FIVE,
    (((), 10 ** 399),),
    W,
    ((ONE, 1), ((), 1)),
    ((ONE, 1), ((), 2)),
    ((ONE, 2),),
    ((ONE, 2), ((), 3)),
    ((ONE, 6),),
    ((ONE, 10 ** 399), ((), 1)),
    ((TWO, 1),),
    ((TWO, 1), ((), 7)),
    ((TWO, 1), (ONE, 1)),
    ((TWO, 1), (ONE, 1), ((), 1)),
    ((TWO, 1), (ONE, 4)),
    ((TWO, 4), (ONE, 1), ((), 1)),
    ((TWO, 6), (ONE, 1), ((), 1)),
    ((FIVE, 1), (TWO, 3)),
    W_W,
    ((W, 1), ((), 1)),
    ((W, 1), (ONE, 1)),
    ((W, 2),),
    ((((ONE, 1), ((), 1)), 1),),
    ((((ONE, 1), ((), 1)), 2), (W, 1), (ONE, 5), ((), 7)),
    ((((ONE, 1), ((), 9)), 1),),
    ((((ONE, 2),), 1),),
    ((((TWO, 1),), 1),),
    ((((TWO, 1), ((), 1)), 1),),
    ((W_W, 1),),
    ((W_W, 1), (W, 1)),
    ((((W, 1), ((), 1)), 1),),
    ((((W, 1), ((), 1)), 3), ((((ONE, 1), ((), 1)), 1))),
    ((((W_W, 1),), 1),),
]


def tower(height):
    # w to (w to (.. w)): nested one deeper than it is high
    found = ONE
    for step in range(height):
        found = ((found, 1),)
    return found


def broad(many):
    # one part for each of so many whole exponents
    exponents = [(((), n),) for n in range(many - 1, 0, -1)] + [()]
    return tuple([(exponent, 3) for exponent in exponents])


# What is no whole number from 0 on, of many kinds.
NO_WHOLES = [
    -1, -10 ** 399, True, False, None, "", "1", "one", (), (1,), (((), 1),), [], [1], {}, {1: 1},
    1.0, 0.0, 1.5, float("nan"), float("inf"), 1j, b"1", set(), frozenset([1]), object(), int, len, range(3),
]
