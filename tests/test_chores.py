import copy
import itertools
import random
import unittest

from cases import Case
from hydrahouse import chores
from hydrahouse.chores import exchange, heap_number, ranks
from hydrahouse.errors import NoChore
from hydrahouse.forms import compare, is_number, raised, whole
from hydrahouse.sums import merged
from samples import ZERO, number

GREAT = 10 ** 399


def all_rules(kinds):
    # each dict of rules over these kinds: each kind is no key, or has one of all lists without a kind twice
    lists = [None]
    for many in range(len(kinds) + 1):
        lists += [list(some) for some in itertools.combinations(kinds, many)]
    for chosen in itertools.product(lists, repeat=len(kinds)):
        yield dict((kind, list(some)) for kind, some in zip(kinds, chosen) if some is not None)


def kinds_of(rules):
    return set(rules) | set(kind for some in rules.values() for kind in some)


def reached(rules, kind):
    # all kinds that a chore of this one may come to be in one exchange or more
    found = set()
    left = list(rules.get(kind, []))
    while left:
        other = left.pop()
        if other not in found:
            found.add(other)
            left += rules.get(other, [])
    return found


def rank_by_the_words(rules, kind):
    some = rules.get(kind, [])
    return 1 + max(rank_by_the_words(rules, other) for other in some) if some else 0


def is_ring(rules, ring):
    behind = ring[1:] + ring[:1]
    return (
        ring != [] and len(set(ring)) == len(ring)
        and all(other in rules.get(kind, []) for kind, other in zip(ring, behind))
    )


def chain(many):
    # k0 to k1, k1 to k2 and so on: the last one is no key
    return dict((f"k{n}", [f"k{n + 1}"]) for n in range(many))


def some_rules(chance, rings):
    kinds = [f"k{n}" for n in range(chance.randrange(1, 12))]
    rules = {}
    for place, kind in enumerate(kinds):
        free = kinds if rings else kinds[place + 1:]
        if chance.random() < 0.8:
            rules[kind] = [chance.choice(free) for step in range(chance.randrange(4)) if free]
    return dict(chance.sample(list(rules.items()), len(rules)))


class Interface(Case):
    def test_arguments(self):
        self.assert_arguments(chores, {
            "ranks": "(rules)", "heap_number": "(ranking, heap)", "exchange": "(rules, heap, kind, given)",
        })


class Ranks(Case):
    def assert_ranks(self, rules, expected):
        found = ranks(rules)
        self.assertEqual(found, ("ranks", expected))
        self.assertIs(found.__class__, tuple)
        self.assertIs(found[1].__class__, dict)
        for rank in found[1].values():
            self.assertIs(rank.__class__, int)

    def assert_ring(self, rules, kinds=None):
        found = ranks(rules)
        self.assertIs(found.__class__, tuple)
        self.assertEqual(len(found), 2)
        self.assertEqual(found[0], "ring")
        self.assertIs(found[1].__class__, list)
        self.assertTrue(is_ring(rules, found[1]), (rules, found[1]))
        if kinds is not None:
            self.assertEqual(sorted(found[1]), sorted(kinds))

    def test_no_rules(self):
        self.assert_ranks({}, {})

    def test_written_out(self):
        table = [
            ({"a": []}, {"a": 0}),
            ({"a": [], "b": []}, {"a": 0, "b": 0}),
            ({"a": ["b"]}, {"a": 1, "b": 0}),
            ({"a": ["b"], "b": []}, {"a": 1, "b": 0}),
            ({"b": [], "a": ["b"]}, {"a": 1, "b": 0}),
            ({"a": ["b", "b", "b"]}, {"a": 1, "b": 0}),
            ({"a": ["b", "c"], "b": ["c"]}, {"a": 2, "b": 1, "c": 0}),
            ({"b": ["c"], "a": ["c", "b"]}, {"a": 2, "b": 1, "c": 0}),
            ({"a": ["b", "c", "b", "c"], "b": ["c", "c"], "c": []}, {"a": 2, "b": 1, "c": 0}),
            # the greatest rank counts, wherever it stands in the list, and not how many there are
            ({"a": ["x", "b", "y"], "b": ["c"], "c": ["d"]}, {"a": 3, "b": 2, "c": 1, "d": 0, "x": 0, "y": 0}),
            ({"a": ["x", "y", "z"]}, {"a": 1, "x": 0, "y": 0, "z": 0}),
            # two ways of unlike length to one kind
            ({"a": ["b", "c"], "b": ["d"], "c": ["e"], "e": ["d"], "d": ["f"]},
             {"a": 4, "b": 2, "c": 3, "e": 2, "d": 1, "f": 0}),
            # kinds apart from one another
            ({"a": ["b"], "c": ["d"], "d": ["e"]}, {"a": 1, "b": 0, "c": 2, "d": 1, "e": 0}),
            ({"": ["w", " "], " ": []}, {"": 1, "w": 0, " ": 0}),
            ({"ranks": ["ring"]}, {"ranks": 1, "ring": 0}),
        ]
        for rules, expected in table:
            with self.subTest(rules=rules):
                self.assert_ranks(rules, expected)

    def test_rings_written_out(self):
        table = [
            ({"a": ["a"]}, ["a"]),
            ({"a": ["b", "a", "c"]}, ["a"]),
            ({"a": ["a", "a"]}, ["a"]),
            ({"": [""]}, [""]),
            ({"a": ["b"], "b": ["a"]}, ["a", "b"]),
            ({"a": ["b"], "b": ["c"], "c": ["a"]}, ["a", "b", "c"]),
            # what leads to the ring, or away from it, is not in it
            ({"x": ["y"], "y": ["a"], "a": ["b"], "b": ["a"]}, ["a", "b"]),
            ({"a": ["b", "x"], "b": ["y", "a", "z"], "y": ["x"]}, ["a", "b"]),
            ({"x": ["y", "a"], "a": ["a"], "y": []}, ["a"]),
            # a ring beside kinds that have none
            ({"x": ["y"], "y": ["z"], "a": ["b", "z"], "b": ["a"]}, ["a", "b"]),
            ({"a": ["b", "z"], "b": ["a"], "x": ["y"], "y": ["z"]}, ["a", "b"]),
            # a kind with two ways out, of which the second one alone comes back
            ({"a": ["b", "c"], "b": ["d"], "c": ["a"], "d": []}, ["a", "c"]),
        ]
        for rules, kinds in table:
            with self.subTest(rules=rules):
                self.assert_ring(rules, kinds)

    def test_one_of_several_rings(self):
        self.assert_ring({"a": ["a"], "b": ["b"]})
        self.assert_ring({"a": ["b"], "b": ["a", "c"], "c": ["b", "c"]})
        self.assert_ring({"a": ["b", "c"], "b": ["c", "a"], "c": ["a", "b"]})

    def test_two_ways_to_one_kind_are_no_ring(self):
        self.assert_ranks({"a": ["b", "c"], "b": ["d"], "c": ["d"]}, {"a": 2, "b": 1, "c": 1, "d": 0})
        self.assert_ranks({"d": [], "c": ["d"], "b": ["d"], "a": ["c", "b"]}, {"a": 2, "b": 1, "c": 1, "d": 0})

    def test_all_rules_over_three_kinds(self):
        met = {"ranks": 0, "ring": 0}
        for rules in all_rules(["a", "b", "c"]):
            found = ranks(rules)
            met[found[0]] += 1
            if any(kind in reached(rules, kind) for kind in rules):
                self.assert_ring(rules)
            else:
                self.assert_ranks(rules, dict((kind, rank_by_the_words(rules, kind)) for kind in kinds_of(rules)))
        self.assertEqual(sum(met.values()), 9 ** 3)
        self.assertGreater(min(met.values()), 70)

    def test_many_rules(self):
        chance = random.Random(32)
        for step in range(400):
            rules = some_rules(chance, step % 2 == 0)
            if any(kind in reached(rules, kind) for kind in rules):
                self.assert_ring(rules)
            else:
                self.assert_ranks(rules, dict((kind, rank_by_the_words(rules, kind)) for kind in kinds_of(rules)))

    def test_long_chains(self):
        for many in [1, 2, 299, 300]:
            expected = dict((f"k{n}", many - n) for n in range(many + 1))
            self.assert_ranks(chain(many), expected)
            self.assert_ranks(dict(reversed(list(chain(many).items()))), expected)

    def test_long_rings(self):
        for many in [4, 100, 300]:
            rules = chain(many)
            rules[f"k{many - 1}"] = ["k0"]
            self.assert_ring(rules, list(rules))
            rules["k2"] = ["k0", "k3"]
            self.assert_ring(rules)
            shuffled = random.Random(many).sample(list(rules.items()), many)
            self.assert_ring(dict(shuffled))

    def test_the_end_of_a_chain_in_its_own_list(self):
        rules = chain(299)
        rules["k299"] = ["x", "k299"]
        self.assert_ring(rules, ["k299"])

    def test_many_kinds(self):
        # each kind of 300 has all that come behind it
        kinds = [f"k{n}" for n in range(301)]
        dense = dict((kind, kinds[place + 1:]) for place, kind in enumerate(kinds[:-1]))
        self.assert_ranks(dense, dict((kind, 300 - place) for place, kind in enumerate(kinds)))
        dense["k299"] = ["k300", "k0"]
        self.assert_ring(dense)
        broad = dict((f"k{n}", [f"k{n}of{m}" for m in range(300)]) for n in range(300))
        found = ranks(broad)
        self.assertEqual(found[0], "ranks")
        self.assertEqual(len(found[1]), 300 + 300 * 300)
        self.assertEqual(sum(found[1].values()), 300)


class HeapNumber(Case):
    RANKING = {"a": 0, "b": 1, "c": 2, "d": 2, "e": 5, "f": 0}

    def test_written_out(self):
        table = [
            ({}, "0"), ({"a": 1}, "1"), ({"a": 7}, "7"), ({"b": 1}, "w"), ({"b": 5}, "w*5"), ({"c": 1}, "w^2"),
            ({"a": 2, "f": 3}, "5"), ({"c": 2, "d": 3}, "w^2*5"), ({"a": 1, "b": 1}, "w+1"), ({"b": 1, "a": 1}, "w+1"),
            ({"a": 3, "b": 5, "c": 1, "d": 1, "e": 2, "f": 4}, "w^5*2+w^2*2+w*5+7"),
            ({"f": 4, "e": 2, "a": 3, "d": 1, "b": 5, "c": 1}, "w^5*2+w^2*2+w*5+7"),
            ({"e": 10 ** 60, "b": 1}, "w^5*1" + "0" * 60 + "+w"),
        ]
        for heap, expected in table:
            with self.subTest(heap=heap):
                self.assertEqual(heap_number(self.RANKING, heap), number(expected))

    def test_merged_in_any_order(self):
        heap = {"a": 2, "b": 1, "d": 4, "e": 1, "f": 9}
        for items in itertools.permutations(heap.items()):
            self.assertEqual(heap_number(self.RANKING, dict(items)), number("w^5+w^2*4+w+11"))

    def test_by_the_words(self):
        chance = random.Random(33)
        for step in range(200):
            ranking = dict((f"k{n}", chance.randrange(6)) for n in range(8))
            heap = dict((kind, chance.randrange(1, 5)) for kind in ranking if chance.random() < 0.6)
            expected = ZERO
            for kind, many in heap.items():
                expected = merged(expected, raised(whole(ranking[kind]), many))
            found = heap_number(ranking, heap)
            self.assertEqual(found, expected)
            self.assertTrue(is_number(found))

    def test_ranks_by_rules(self):
        ranking = ranks({"house": ["room"], "room": ["shelf", "floor"], "shelf": ["book"]})[1]
        self.assertEqual(heap_number(ranking, {"house": 1, "book": 3, "shelf": 2}), number("w^3+w*2+3"))

    def test_at_the_bounds(self):
        ranking = dict((f"k{n}", 299 - n) for n in range(300))
        heap = dict((kind, GREAT + 1) for kind in ranking)
        self.assertEqual(heap_number(ranking, heap), tuple((whole(n), GREAT + 1) for n in range(299, -1, -1)))
        alike = dict((f"k{n}", GREAT) for n in range(300))
        self.assertEqual(heap_number(alike, heap), ((whole(GREAT), 300 * (GREAT + 1)),))


class Exchange(Case):
    RULES = {"a": ["b", "c"], "b": ["c", "c"], "d": [], "e": ["e"], "f": ["g", "f"]}

    def test_written_out(self):
        table = [
            # more than one is there, and the last one goes
            ({"a": 2}, "a", {"b": 1}, {"a": 1, "b": 1}),
            ({"a": 1}, "a", {"b": 1}, {"b": 1}),
            # for nothing
            ({"a": 1}, "a", {}, {}),
            ({"a": 3}, "a", {}, {"a": 2}),
            ({"d": 1}, "d", {}, {}),
            ({"d": 5, "z": 1}, "d", {}, {"d": 4, "z": 1}),
            # with 0, of kinds in the list and of others, in the heap and not
            ({"a": 1}, "a", {"b": 0}, {}),
            ({"a": 1, "b": 4}, "a", {"b": 0, "c": 2}, {"b": 4, "c": 2}),
            ({"a": 2, "z": 4}, "a", {"z": 0, "y": 0, "a": 0, "c": 1}, {"a": 1, "z": 4, "c": 1}),
            ({"d": 1}, "d", {"a": 0, "d": 0}, {}),
            ({"a": 1}, "a", {"a": 0}, {}),
            # kinds that the heap has and has not
            ({"a": 1, "b": 2}, "a", {"b": 3, "c": 4}, {"b": 5, "c": 4}),
            ({"b": 1, "c": 7}, "b", {"c": 1}, {"c": 8}),
            # the kind itself
            ({"e": 1}, "e", {"e": 1}, {"e": 1}),
            ({"e": 1}, "e", {"e": 9}, {"e": 9}),
            ({"e": 4}, "e", {"e": 9}, {"e": 12}),
            ({"e": 1}, "e", {"e": 0}, {}),
            ({"f": 1}, "f", {"f": 2, "g": 3}, {"f": 2, "g": 3}),
            # a heap with kinds that the rules don't know
            ({"a": 1, "unknown": 3}, "a", {"c": 1}, {"c": 1, "unknown": 3}),
            # great numbers
            ({"a": GREAT}, "a", {"b": GREAT, "c": 1}, {"a": GREAT - 1, "b": GREAT, "c": 1}),
            ({"a": 1, "b": GREAT}, "a", {"b": GREAT}, {"b": 2 * GREAT}),
        ]
        for heap, kind, given, expected in table:
            with self.subTest(heap=str(heap)[:80], kind=kind, given=str(given)[:80]):
                found = exchange(self.RULES, heap, kind, given)
                self.assertEqual(found, expected)
                self.assertIs(found.__class__, dict)

    def test_no_chore(self):
        table = [
            # no key of the rules
            ({"c": 1}, "c", {}), ({"z": 1}, "z", {}), ({"a": 1}, "z", {}), ({}, "c", {}), ({"c": 1}, "c", {"c": 1}),
            ({"c": 1}, "c", {"b": 0}), ({"A": 1}, "A", {}), ({"": 1}, "", {}),
            # the heap has none of it
            ({}, "a", {}), ({}, "a", {"b": 1}), ({"b": 1}, "a", {"b": 1}), ({"b": 1, "c": 3}, "d", {}),
            ({"c": 1}, "e", {"e": 1}),
            # a kind that isn't in the list
            ({"a": 1}, "a", {"d": 1}), ({"a": 1}, "a", {"a": 1}), ({"a": 1, "z": 1}, "a", {"z": 1}),
            ({"a": 1}, "a", {"b": 1, "c": 1, "z": 1}), ({"a": 1}, "a", {"z": 1, "b": 1}),
            ({"a": 1}, "a", {"b": 0, "d": 2}), ({"b": 1}, "b", {"a": 1}), ({"b": 1}, "b", {"b": 1}),
            ({"d": 1}, "d", {"d": 1}), ({"d": 1}, "d", {"c": GREAT}), ({"e": 1}, "e", {"e": 1, "f": 1}),
            # several at once
            ({}, "z", {"y": 1}), ({"c": 1}, "c", {"z": 1}), ({}, "a", {"z": 1}),
        ]
        for heap, kind, given in table:
            with self.subTest(heap=heap, kind=kind, given=str(given)[:80]):
                before = copy.deepcopy((self.RULES, heap, given))
                self.assert_refused(NoChore, exchange, self.RULES, heap, kind, given)
                self.assertEqual((self.RULES, heap, given), before)
        self.assert_refused(NoChore, exchange, {}, {"a": 1}, "a", {})
        self.assert_refused(NoChore, exchange, {}, {}, "a", {})

    def test_rules_with_a_ring_are_exchanged_too(self):
        self.assertEqual(exchange({"a": ["b"], "b": ["a"]}, {"a": 1}, "a", {"b": 2}), {"b": 2})

    def test_at_the_bounds(self):
        kinds = [f"k{n}" for n in range(300)]
        rules = dict((kind, kinds[place + 1:]) for place, kind in enumerate(kinds))
        heap = dict((kind, GREAT) for kind in kinds)
        given = dict((kind, GREAT) for kind in kinds[1:])
        found = exchange(rules, heap, "k0", given)
        self.assertEqual(found, dict([("k0", GREAT - 1)] + [(kind, 2 * GREAT) for kind in kinds[1:]]))
        ranking = ranks(rules)[1]
        self.assertEqual(compare(heap_number(ranking, found), heap_number(ranking, heap)), -1)


class Falling(Case):
    def test_each_exchange_leads_to_a_lesser_number(self):
        chance = random.Random(3)
        met = 0
        for step in range(150):
            rules = some_rules(chance, False)
            ranking = ranks(rules)[1]
            heap = dict((kind, chance.randrange(1, 4)) for kind in ranking if chance.random() < 0.7)
            for turn in range(6):
                free = [kind for kind in heap if kind in rules]
                if free == []:
                    break
                kind = chance.choice(free)
                given = dict((other, chance.choice([0, 1, 5, GREAT])) for other in rules[kind])
                found = exchange(rules, heap, kind, given)
                self.assertTrue(all(many > 0 for many in found.values()))
                self.assertEqual(compare(heap_number(ranking, found), heap_number(ranking, heap)), -1)
                met += 1
                heap = found
        self.assertGreater(met, 300)

    def test_a_heap_comes_to_its_end(self):
        rules = {"a": ["b"], "b": ["c"], "c": []}
        ranking = ranks(rules)[1]
        heap = {"a": 2}
        numbers = [heap_number(ranking, heap)]
        while heap:
            kind = max(heap)
            heap = exchange(rules, heap, kind, dict((other, 3) for other in rules[kind]))
            numbers.append(heap_number(ranking, heap))
        self.assertEqual(numbers[-1], ZERO)
        self.assertEqual(len(numbers), 1 + 2 + 6 + 18)
        for a, b in zip(numbers, numbers[1:]):
            self.assertEqual(compare(b, a), -1)

    def test_round_a_ring_a_heap_comes_to_be_what_it_was(self):
        chance = random.Random(4)
        met = 0
        for step in range(300):
            rules = some_rules(chance, True)
            word, ring = ranks(rules)
            if word == "ring":
                met += 1
                heap = {ring[0]: 2, "more": 5}
                found = heap
                for kind, other in zip(ring, ring[1:] + ring[:1]):
                    found = exchange(rules, found, kind, {other: 1})
                self.assertEqual(found, heap)
        self.assertGreater(met, 100)


class HandedInAndTold(Case):
    def test_what_is_handed_in_is_not_changed(self):
        self.assert_unchanged(ranks, {"a": ["b", "c", "c"], "b": ["d"], "d": []})
        self.assert_unchanged(ranks, {"a": ["b", "c", "c"], "b": ["d"], "d": ["a", "x"]})
        self.assert_unchanged(heap_number, {"a": 2, "b": 0}, {"b": 3, "a": 1})
        self.assert_unchanged(exchange, {"a": ["b"]}, {"a": 1, "b": 2}, "a", {"b": 3, "c": 0})
        self.assert_unchanged(exchange, {"a": []}, {"a": 1}, "a", {})

    def test_what_is_told_is_the_askers_own(self):
        rules = {"a": ["b"], "b": ["c"]}
        told = ranks(rules)
        told[1]["a"] = 99
        told[1]["more"] = 1
        self.assertEqual(ranks(rules), ("ranks", {"a": 2, "b": 1, "c": 0}))
        self.assertEqual(rules, {"a": ["b"], "b": ["c"]})
        kept = ranks(rules)
        rules["c"] = ["d"]
        rules["a"].append("e")
        self.assertEqual(kept, ("ranks", {"a": 2, "b": 1, "c": 0}))
        ringed = {"a": ["b"], "b": ["a"]}
        ring = ranks(ringed)[1]
        kept = list(ring)
        ring.append("more")
        self.assertEqual(ranks(ringed)[1], kept)
        self.assertEqual(ringed, {"a": ["b"], "b": ["a"]})
        own = {"a": ["a"]}
        self.assertIsNot(ranks(own)[1], own["a"])

    def test_a_heap_told_is_the_askers_own(self):
        rules, heap, given = {"a": ["b"]}, {"a": 2}, {"b": 1}
        told = exchange(rules, heap, "a", given)
        told["b"] = 7
        told["x"] = 1
        self.assertEqual((rules, heap, given), ({"a": ["b"]}, {"a": 2}, {"b": 1}))
        again = exchange(rules, heap, "a", given)
        self.assertEqual(again, {"a": 1, "b": 1})
        heap["a"] = 5
        given["b"] = 5
        self.assertEqual(again, {"a": 1, "b": 1})


if __name__ == "__main__":
    unittest.main()
