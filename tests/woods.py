"""Trees for the tests, and their cuts by the words of the document alone."""

GREAT = 10 ** 399
BARE = ()
TWIG = (BARE,)


def stick(height):
    # a tree of one branch on another
    found = BARE
    for step in range(height):
        found = (found,)
    return found


def star(many):
    return (BARE,) * many


def grown_trees(most):
    # each tree of at most so many points
    found = {1: [BARE]}
    for count in range(2, most + 1):
        found[count] = [(first,) + rest for ahead in range(1, count)
                        for first in found[ahead] for rest in found[count - ahead]]
    return [tree for count in range(1, most + 1) for tree in found[count]]


TREES = grown_trees(7)
MORE = [
    (star(3), TWIG, (star(2), BARE), BARE, stick(3)), (BARE, (stick(2), BARE, stick(2)), stick(4)),
    ((star(2), (star(1), star(2), BARE)),), stick(40), star(599), (star(20),) * 28, (BARE, stick(30), BARE),
]


def all_ways(tree):
    found = [()]
    for place, branch in enumerate(tree):
        found += [(place,) + way for way in all_ways(branch)]
    return found


def point_at(tree, way):
    for place in way:
        tree = tree[place]
    return tree


def as_lists(tree):
    return [as_lists(branch) for branch in tree]


def as_tuples(tree):
    return tuple([as_tuples(branch) for branch in tree])


def cut_by_the_words(tree, way, many):
    root = as_lists(tree)
    if len(way) == 1:
        root.pop(way[0])
        return as_tuples(root)
    g = point_at(root, way[:-2])
    p = g[way[-2]]
    p.pop(way[-1])
    for step in range(many):
        g.insert(way[-2] + 1, as_lists(p))
    return as_tuples(root)


FORKED = (star(2), BARE, ((BARE, TWIG), BARE))
# What is not the way of a head of that tree, of many kinds.
NO_HEADS = [
    # the root, points with branches, places that are not there, ways that lead on behind a head
    (), (0,), (2,), (2, 0), (2, 0, 1), (3,), (0, 2), (2, 2), (GREAT,), (1, 0), (0, 0, 0), (2, 0, 1, 0, 0),
    # places counted from the end
    (-1,), (-2,), (0, -1), (-3, 0), (2, -1), (2, 0, -2), (-GREAT,),
    # other kinds
    True, False, None, 0, 1, -1, "", "1", "(1,)", [], [1], [0, 0], {}, {0: 0}, {1}, 1.0, b"1", range(1, 2),
    object(), len, int, (True,), (False,), (False, 0), (0, False), (0, True), (2, 0, False), (1.0,), (0, 0.0),
    ("1",), (None,), (None, 0), (0, None), ((1,),), ([1],), ([0], 0), ({},), (0, ()), ((), 0), ((),),
]
