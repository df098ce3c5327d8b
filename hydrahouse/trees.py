"""Trees whose heads are cut and grow again, and their numbers."""

from hydrahouse.errors import NoHead, NoNumber, Nought, TooGreat
from hydrahouse.forms import compare, is_whole
from hydrahouse.sums import merged

MOST_POINTS = 600


def points(tree):
    return 1 + sum([points(branch) for branch in tree])


def heads(tree):
    found = []
    for place, branch in enumerate(tree):
        if branch == ():
            found.append((place,))
        found.extend([(place,) + way for way in heads(branch)])
    return found


def number_of(tree):
    found = ()
    for branch in tree:
        found = merged(found, ((number_of(branch), 1),))
    return found


def cut(tree, way, many=1):
    if not is_head(tree, way):
        raise NoHead("there is no head on this way")
    if not is_whole(many):
        raise NoNumber("new ones are told by a whole number from 0 on")
    # Counted ahead of growing: so many new ones could be far too many to be grown.
    if points_left(tree, way, many) > MOST_POINTS:
        raise TooGreat("the cut would leave too many points")
    if len(way) == 1:
        return without_branch(tree, way[0])
    return cut_and_grown(tree, way, many)


def is_head(tree, way):
    if not isinstance(way, tuple) or way == ():
        return False
    point = tree
    for place in way:
        if not is_whole(place) or place >= len(point):
            return False
        point = point[place]
    return point == ()


def points_left(tree, way, many):
    left = points(tree) - 1
    if len(way) == 1:
        return left
    point = tree
    for place in way[:-1]:
        point = point[place]
    return left + many * (points(point) - 1)


def cut_and_grown(tree, way, many):
    place = way[0]
    if len(way) == 2:
        grown = (without_branch(tree[place], way[1]),) * (1 + many)
    else:
        grown = (cut_and_grown(tree[place], way[1:], many),)
    return tree[:place] + grown + tree[place + 1:]


def without_branch(tree, place):
    return tree[:place] + tree[place + 1:]


def least_head(tree):
    if tree == ():
        raise Nought("a bare point has no head")
    way = ()
    point = tree
    while point != ():
        place = least_branch(point)
        way = way + (place,)
        point = point[place]
    return way


def least_branch(tree):
    numbers = [number_of(branch) for branch in tree]
    least = 0
    for place, number in enumerate(numbers):
        if compare(number, numbers[least]) <= 0:
            least = place
    return least


def tree_of(a):
    if points_of_number(a) > MOST_POINTS:
        raise TooGreat("the tree would have too many points")
    branches = ()
    for exponent, many in a:
        branches = branches + (tree_of(exponent),) * many
    return branches


def points_of_number(a):
    return 1 + sum([many * points_of_number(exponent) for exponent, many in a])
