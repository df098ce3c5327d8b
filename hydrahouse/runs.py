"""Runs of programs: step by step, with the weight of what is still to be done."""

from hydrahouse.rows import weight_of
from hydrahouse.sums import plus


def weight(rows):
    return weight_of(rows)


def trace(rows, boxes, most=50):
    now = dict(boxes)
    left = []
    put_ahead(left, rows)
    found = [told(left, now)]
    while left != [] and len(found) <= most:
        thing = left.pop()[0]
        put_ahead(left, thing.step(now))
        found.append(told(left, now))
    return found


def put_ahead(left, things):
    # What is done first stands last; each thing stands with the weight of it and of all that is done behind it.
    for thing in reversed(things):
        left.append((thing, plus(weight_left(left), thing.weigh())))


def weight_left(left):
    return left[-1][1] if left != [] else ()


def told(left, boxes):
    return (weight_left(left), dict([(box, amount) for box, amount in boxes.items() if amount > 0]))
