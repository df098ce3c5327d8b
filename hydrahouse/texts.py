"""Numbers and trees as texts, and texts read as numbers and trees."""

from hydrahouse.errors import NoText
from hydrahouse.forms import endless, whole, without_whole
from hydrahouse.readings import looked_up, reckoned, steps_of
from hydrahouse.trees import MOST_POINTS

MOST_DEEP = 40


def shown(a):
    if a == ():
        return "0"
    return "+".join([part_shown(exponent, many) for exponent, many in a])


def part_shown(exponent, many):
    if exponent == ():
        return str(many)
    text = power_shown(exponent)
    return text if many == 1 else f"{text}*{many}"


def power_shown(exponent):
    if exponent == whole(1):
        return "w"
    text = shown(exponent)
    if without_whole(exponent) == () or exponent == endless():
        return f"w^{text}"
    return f"w^({text})"


def read(text, names=None):
    return reckoned(looked_up(steps_of(text), {} if names is None else names))


def tree_shown(tree):
    branches = "".join([tree_shown(branch) for branch in tree])
    return f"({branches})"


def tree_read(text):
    if not isinstance(text, str) or text.count("(") > MOST_POINTS:
        raise NoText("a text of a tree is asked for that is not too great")
    # The branches of each point that is not closed yet; ahead of them a list for the root itself.
    begun = [[]]
    for sign in text:
        if sign == "(" and is_room(begun):
            begun.append([])
        elif sign == ")" and len(begun) > 1:
            branches = begun.pop()
            begun[-1].append(tuple(branches))
        else:
            raise NoText("its brackets are no tree's")
    if begun[0] == []:
        raise NoText("the tree's last bracket is missing")
    return begun[0][0]


def is_room(begun):
    # Outside there is room for the root alone, and then for points as deep as a tree may be.
    return begun[0] == [] and len(begun) <= MOST_DEEP + 1
