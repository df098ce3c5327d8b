"""Chores that are exchanged for others: their ranks or a ring of them, and the numbers of heaps."""

from hydrahouse.errors import NoChore
from hydrahouse.forms import raised, whole
from hydrahouse.sums import merged


def ranks(rules):
    ranking = {}
    for kinds in rules.values():
        for kind in kinds:
            if kind not in rules:
                ranking[kind] = 0
    for kind in rules:
        ring = ring_met(rules, kind, ranking)
        if ring != []:
            return ("ring", ring)
    return ("ranks", ranking)


def ring_met(rules, first, ranking):
    # Goes from the first kind along the lists, one way at a time, and ranks each kind that it comes back from;
    # a kind that is met while it stands on that way closes a ring. By a loop, as a chain may be long.
    way = [first]
    left = [list(rules[first])]
    while way != []:
        if left[-1] == []:
            left.pop()
            kind = way.pop()
            ranking[kind] = rank_above(rules[kind], ranking)
        else:
            kind = left[-1].pop()
            if kind in ranking:
                continue
            if kind in way:
                return way[way.index(kind):]
            way.append(kind)
            left.append(list(rules[kind]))
    return []


def rank_above(kinds, ranking):
    return max([ranking[kind] + 1 for kind in kinds], default=0)


def heap_number(ranking, heap):
    found = ()
    for kind, many in heap.items():
        found = merged(found, raised(whole(ranking[kind]), many))
    return found


def exchange(rules, heap, kind, given):
    if kind not in rules or heap.get(kind, 0) == 0:
        raise NoChore("there is no such chore to be exchanged")
    found = dict(heap)
    found[kind] = found[kind] - 1
    for other, many in given.items():
        if many > 0 and other not in rules[kind]:
            raise NoChore("the chore is not exchanged for one of these")
        found[other] = found.get(other, 0) + many
    return dict([(other, many) for other, many in found.items() if many > 0])
