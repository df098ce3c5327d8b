"""Numbers for the tests, written out as tuples, so that they hang on no function of the program."""

ZERO = ()
ONE = (((), 1),)
TWO = (((), 2),)
FIVE = (((), 5),)
W = ((ONE, 1),)
W_W = ((W, 1),)

# Each one is below the next one.
RISING = [
    ZERO,
    ONE,
    TWO,
    FIVE,
    (((), 10 ** 399),),
    W,
    ((ONE, 1), ((), 1)),
    ((ONE, 1), ((), 2)),
    ((ONE, 2),),
    ((ONE, 2), ((), 3)),
    ((ONE, 6),),
    ((ONE, 10 ** 399), ((), 1)),
    ((TWO, 1),),
    ((TWO, 1), ((), 7)),
    ((TWO, 1), (ONE, 1)),
    ((TWO, 1), (ONE, 1), ((), 1)),
    ((TWO, 1), (ONE, 4)),
    ((TWO, 4), (ONE, 1), ((), 1)),
    ((TWO, 6), (ONE, 1), ((), 1)),
    ((FIVE, 1), (TWO, 3)),
    W_W,
    ((W, 1), ((), 1)),
    ((W, 1), (ONE, 1)),
    ((W, 2),),
    ((((ONE, 1), ((), 1)), 1),),
    ((((ONE, 1), ((), 1)), 2), (W, 1), (ONE, 5), ((), 7)),
    ((((ONE, 1), ((), 9)), 1),),
    ((((ONE, 2),), 1),),
    ((((TWO, 1),), 1),),
    ((((TWO, 1), ((), 1)), 1),),
    ((W_W, 1),),
    ((W_W, 1), (W, 1)),
    ((((W, 1), ((), 1)), 1),),
    ((((W, 1), ((), 1)), 3), ((((ONE, 1), ((), 1)), 1))),
    ((((W_W, 1),), 1),),
]


def number(text):
    # a number from its text, as in w^(w+1)*2+w^3+w*5+7, its parts as they stand there
    return () if text == "0" else tuple([part_of(part) for part in text_parts(text)])


def text_parts(text):
    parts = [""]
    within = 0
    for sign in text:
        within += (sign == "(") - (sign == ")")
        if sign == "+" and within == 0:
            parts.append("")
        else:
            parts[-1] += sign
    return parts


def part_of(text):
    if text.isdigit():
        return ((), int(text))
    ahead, star, behind = text.rpartition("*")
    if not behind.isdigit():
        ahead, behind = text, "1"
    exponent = ahead[2:] or "1"
    if exponent.startswith("("):
        exponent = exponent[1:-1]
    return (number(exponent), int(behind))


def choices(exponents, most, times):
    # each number of at most so many parts, of exponents that rise in their list
    found = [()]
    for exponent in exponents:
        found += [((exponent, n),) + a for a in found if len(a) < most for n in times]
    return found


EXPONENTS = [number(text) for text in ["0", "1", "2", "w", "w+1", "w*2", "w^2", "w^w"]]
# Each number of at most two parts, of these exponents, each once or three times.
MIXED = choices(EXPONENTS, 2, [1, 3])


def named(*numbers):
    return {"numbers": str(numbers)[:200]}


def tower(height):
    # w to (w to (.. w)): nested one deeper than it is high
    found = ONE
    for step in range(height):
        found = ((found, 1),)
    return found


def broad(many):
    # one part for each of so many whole exponents
    exponents = [(((), n),) for n in range(many - 1, 0, -1)] + [()]
    return tuple([(exponent, 3) for exponent in exponents])


# What is no whole number from 0 on, of many kinds.
NO_WHOLES = [
    -1, -10 ** 399, True, False, None, "", "1", "one", (), (1,), (((), 1),), [], [1], {}, {1: 1},
    1.0, 0.0, 1.5, float("nan"), float("inf"), 1j, b"1", set(), frozenset([1]), object(), int, len, range(3),
]

# What is no text, of many kinds.
NO_TEXTS = [
    True, False, None, 0, 1, -1, 10 ** 399, (), (((), 1),), ("w",), [], ["w"], ["0"], {}, {"w": 1}, {"0": 0}, 1.0, b"w",
    b"0", b"()", bytearray(b"w"), set(), frozenset(["w"]), object(), str, len, range(3), float("nan"), 1j,
]
