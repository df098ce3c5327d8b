"""Programs for the tests, told as plain tuples, and their runs by the words of the document alone."""

import random

from hydrahouse.forms import compare
from hydrahouse.products import times
from hydrahouse.rows import Add, Copy, Less, Set, Times, While
from hydrahouse.sums import merged, plus
from samples import ONE, TWO, W, ZERO, number

MAKERS = {"set": Set, "copy": Copy, "add": Add, "less": Less}
EXPONENTS = [number(text) for text in ["0", "0", "1", "1", "2", "w", "w+1", "w^w"]]
NAMES = ["a", "b", "c"]


def built(things):
    # rows from tuples such as ("set", "a", 3) and ("while", "a", [(exponent, "a")], [("less", "a")])
    return [built_row(thing) for thing in things]


def built_row(thing):
    if thing[0] == "times":
        return Times(thing[1], built(thing[2]))
    if thing[0] == "while":
        return While(thing[1], thing[2], built(thing[3]))
    return MAKERS[thing[0]](*thing[1:])


def weight_by_the_words(things):
    found = ZERO
    for thing in reversed(things):
        found = plus(found, one_weight(thing))
    return found


def one_weight(thing):
    if thing[0] == "times":
        return times(plus(weight_by_the_words(thing[2]), ONE), W)
    if thing[0] == "count":
        n = (((), thing[2]),) if thing[2] > 0 else ZERO
        return plus(times(plus(weight_by_the_words(thing[1]), ONE), n), ONE)
    if thing[0] == "while":
        top = plus(max([exponent for exponent, box in thing[2]]), ONE) if thing[2] else ZERO
        return plus(times(plus(weight_by_the_words(thing[3]), TWO), ((top, 1),)), ONE)
    if thing[0] == "bearing":
        return plus(times(plus(weight_by_the_words(thing[3]), TWO), thing[4]), ONE)
    return ONE


def measured(marks, boxes):
    found = ZERO
    for exponent, box in marks:
        if boxes.get(box, 0) > 0:
            found = merged(found, ((exponent, boxes[box]),))
    return found


def step_by_the_words(things, boxes):
    # what is left to be done, or None where the step is refused
    kind, *rest = things[0]
    left = things[1:]
    if kind == "set":
        boxes[rest[0]] = rest[1]
    elif kind == "copy":
        boxes[rest[0]] = boxes.get(rest[1], 0)
    elif kind == "add":
        boxes[rest[0]] = boxes.get(rest[0], 0) + boxes.get(rest[1], 0)
    elif kind == "less":
        boxes[rest[0]] = max(0, boxes.get(rest[0], 0) - 1)
    elif kind == "times":
        left = [("count", rest[1], boxes.get(rest[0], 0))] + left
    elif kind == "count" and rest[1] > 0:
        left = rest[0] + [("count", rest[0], rest[1] - 1)] + left
    elif kind in ("while", "bearing") and boxes.get(rest[0], 0) > 0:
        now = measured(rest[1], boxes)
        if kind == "bearing" and compare(now, rest[3]) >= 0:
            return None
        left = rest[2] + [("bearing", rest[0], rest[1], rest[2], now)] + left
    return left


def trace_by_the_words(things, boxes, most):
    # what the trace tells, and whether a step was refused
    boxes = dict(boxes)
    found = [(weight_by_the_words(things), without_noughts(boxes))]
    while things and len(found) <= most:
        things = step_by_the_words(things, boxes)
        if things is None:
            return found, True
        found.append((weight_by_the_words(things), without_noughts(boxes)))
    return found, False


def without_noughts(boxes):
    return {box: amount for box, amount in boxes.items() if amount > 0}


def chosen(chance, within):
    # one row, with rows at most so many deep in it
    kind = chance.choice(["set", "copy", "add", "less", "less", "times", "while", "while"][:8 if within else 5])
    box = chance.choice(NAMES)
    if kind == "set":
        return (kind, box, chance.randrange(4))
    if kind in ("copy", "add"):
        return (kind, box, chance.choice(NAMES))
    if kind == "less":
        return (kind, box)
    rows = [chosen(chance, within - 1) for row in range(chance.randrange(4))]
    if kind == "times":
        return (kind, box, rows)
    marks = [(chance.choice(EXPONENTS), chance.choice(NAMES)) for mark in range(chance.randrange(4))]
    if chance.randrange(2) > 0:
        # so that some come to an end
        rows.append(("less", box))
        marks.append((chance.choice(EXPONENTS), box))
    return (kind, box, marks, rows)


def some_programs(many):
    # The same ones each time, as the seed is told.
    chance = random.Random(30)
    found = []
    for program in range(many):
        things = [chosen(chance, 3) for row in range(chance.randrange(5))]
        boxes = {box: chance.randrange(4) for box in NAMES if chance.randrange(3) > 0}
        found.append((things, boxes))
    return found
