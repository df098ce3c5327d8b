"""The rows of programs: what each does in one step, what then stands in its place, and what it weighs."""

from hydrahouse.errors import NoFall
from hydrahouse.forms import compare, endless, raised, whole
from hydrahouse.products import times
from hydrahouse.sums import plus, total


def weight_of(things):
    return total([thing.weigh() for thing in reversed(things)])


def held(boxes, box):
    return boxes.get(box, 0)


# Each row under this one has a step that changes the boxes and tells what then stands in the row's place.
class Row:
    def weigh(self):
        return whole(1)


class Set(Row):
    def __init__(self, box, amount):
        self.box = box
        self.amount = amount

    def step(self, boxes):
        boxes[self.box] = self.amount
        return []


class Copy(Row):
    def __init__(self, box, other):
        self.box = box
        self.other = other

    def step(self, boxes):
        boxes[self.box] = held(boxes, self.other)
        return []


class Add(Row):
    def __init__(self, box, other):
        self.box = box
        self.other = other

    def step(self, boxes):
        boxes[self.box] = held(boxes, self.box) + held(boxes, self.other)
        return []


class Less(Row):
    def __init__(self, box):
        self.box = box

    def step(self, boxes):
        boxes[self.box] = max(held(boxes, self.box) - 1, 0)
        return []


class Times(Row):
    def __init__(self, box, rows):
        self.box = box
        self.rows = tuple(rows)
        # Weighed once, here: rows that stand many times within rows would else be weighed without end.
        self.of_round = plus(weight_of(self.rows), whole(1))

    def weigh(self):
        return times(self.of_round, endless())

    def step(self, boxes):
        return [Count(self, held(boxes, self.box))]


# What a Times becomes.
class Count(Row):
    def __init__(self, loop, rounds):
        self.loop = loop
        self.rounds = rounds

    def weigh(self):
        return plus(times(self.loop.of_round, whole(self.rounds)), whole(1))

    def step(self, boxes):
        if self.rounds == 0:
            return []
        return list(self.loop.rows) + [Count(self.loop, self.rounds - 1)]


class While(Row):
    def __init__(self, box, marks, rows):
        self.box = box
        self.heights = by_exponent(marks)
        self.rows = tuple(rows)
        self.of_round = plus(weight_of(self.rows), whole(2))

    def weigh(self):
        height = plus(self.heights[0][0], whole(1)) if self.heights != () else ()
        return plus(times(self.of_round, raised(height)), whole(1))

    def step(self, boxes):
        if held(boxes, self.box) == 0:
            return []
        return list(self.rows) + [Bearing(self, self.measure(boxes))]

    def measure(self, boxes):
        found = ()
        for exponent, names in self.heights:
            found = found + raised(exponent, sum([held(boxes, name) for name in names]))
        return found


# A While that bears what its marks measured; the row that was handed in never bears anything.
class Bearing(Row):
    def __init__(self, loop, borne):
        self.loop = loop
        self.borne = borne

    def weigh(self):
        return plus(times(self.loop.of_round, self.borne), whole(1))

    def step(self, boxes):
        if held(boxes, self.loop.box) > 0 and compare(self.loop.measure(boxes), self.borne) >= 0:
            raise NoFall("a loop goes on though its marks measure no less than before")
        return self.loop.step(boxes)


def by_exponent(marks):
    # Exponents greatest first, each once, with its boxes: so a measure is told part by part.
    names = {}
    for exponent, box in marks:
        names.setdefault(exponent, []).append(box)
    return tuple([(exponent, tuple(names[exponent])) for exponent in sorted(names, reverse=True)])
