"""Plays: trees cut again and again, by a rule or by hand, until the bare point is left."""

from hydrahouse.errors import NoStep
from hydrahouse.trees import cut, least_head, number_of


def felled(tree, rule, most=20):
    found = [tree]
    while found[-1] != () and len(found) <= most:
        found.append(cut(found[-1], least_head(found[-1]), rule(len(found) - 1)))
    return found


class Play:
    def __init__(self, tree):
        # The first tree, and the tree behind each cut that was not taken back, with their numbers.
        self.met = [tree]
        self.reached = [number_of(tree)]

    def tree(self):
        return self.met[-1]

    def cut(self, way, many=1):
        # Here the cut of a tree is meant, not this method: where it is refused, nothing was put down yet.
        grown = cut(self.met[-1], way, many)
        self.met.append(grown)
        self.reached.append(number_of(grown))
        return self.reached[-1]

    def back(self):
        if len(self.met) == 1:
            raise NoStep("there is no cut to be taken back")
        self.met.pop()
        self.reached.pop()
        return self.reached[-1]

    def numbers(self):
        return list(self.reached)
