"""What point 3 promises over the whole program, asked by the functions and by rows at a desk."""

import itertools
import random
import unittest

from cases import Case
from hydrahouse.bases import down, row, worth
from hydrahouse.chores import exchange, heap_number, ranks
from hydrahouse.desk import Desk
from hydrahouse.errors import HydraError, NoFall, NoLimit, TooHigh
from hydrahouse.forms import compare, greatest, is_limit, is_number, whole
from hydrahouse.ladders import ladder, rung, way_down
from hydrahouse.plays import Play, felled
from hydrahouse.powers import power
from hydrahouse.products import divided, factors, times, woven
from hydrahouse.runs import trace, weight
from hydrahouse.sums import common, merged, minus, plus, total
from hydrahouse.texts import read, shown, tree_read, tree_shown
from hydrahouse.trees import cut, heads, least_head, number_of, tree_of
from programs import built, some_programs
from samples import ONE, ZERO, number
from woods import BARE, TREES, star, stick

TEXTS = ["0", "1", "2", "3", "w", "w+1", "w*2", "w*3+2", "w^2", "w^2+w+1", "w^w", "w^w+w*2+1", "w^(w+1)*2+w^3+7"]
NUMBERS = [number(text) for text in TEXTS]
PAIRS = list(itertools.combinations(TEXTS, 2))
TRIPLES = list(itertools.product(TEXTS, repeat=3))


class Asked(Case):
    def setUp(self):
        self.desk = Desk()

    def assert_hold(self, first, wanted, second):
        self.assertEqual(self.desk.say(f"hold {first} {second}"), wanted, f"{first} {second}")

    def assert_same(self, first, second):
        self.assert_hold(first, "same", second)

    def assert_less(self, first, second):
        self.assert_hold(first, "less", second)

    def assert_not_above(self, first, second):
        self.assertIn(self.desk.say(f"hold {first} {second}"), ["less", "same"], f"{first} {second}")

    def assert_falls(self, numbers):
        # a list of numbers, by compare and by hold
        self.assertTrue(all(is_number(a) for a in numbers))
        for a, b in zip(numbers, numbers[1:]):
            self.assertEqual(compare(b, a), -1)
        for name, a in zip(["old", "new"] * len(numbers), numbers):
            self.assertEqual(self.desk.say(f"let {name} {shown(a)}"), shown(a))
            if a != numbers[0]:
                self.assertEqual(self.desk.say("hold old new"), "more" if name == "new" else "less")


class Reckoning(Asked):
    def test_put_together_in_any_way(self):
        for a, b, c in TRIPLES:
            self.assert_same(f"({a})+(({b})+({c}))", f"(({a})+({b}))+({c})")
            self.assert_same(f"({a})*(({b})*({c}))", f"(({a})*({b}))*({c})")
        for a, b, c in itertools.product(NUMBERS, repeat=3):
            self.assertEqual(plus(a, plus(b, c)), plus(plus(a, b), c))
            self.assertEqual(plus(a, plus(b, c)), total([a, b, c]))
            self.assertEqual(times(a, times(b, c)), times(times(a, b), c))

    def test_spread_over_a_sum_at_the_right_hand(self):
        for a, b, c in TRIPLES:
            self.assert_same(f"({a})*(({b})+({c}))", f"({a})*({b})+({a})*({c})")
            self.assert_same(f"({a})^(({b})+({c}))", f"({a})^({b})*({a})^({c})")
            # beside one whose whole part is 7: 7 times 7 would be too great a power
            if TEXTS[-1] not in [a, b, c]:
                self.assert_same(f"(({a})^({b}))^({c})", f"({a})^(({b})*({c}))")
        # and not at the left hand
        self.assert_less("(w+1)*2", "w*2+1*2")
        self.assert_less("(1+1)*w", "w*(1+1)")
        self.assert_less("(w*2)^2", "w^2*2^2")

    def test_at_the_right_hand_the_order_is_kept_strictly(self):
        for (b, c), a in itertools.product(PAIRS, TEXTS):
            self.assert_less(b, c)
            self.assert_less(f"({a})+({b})", f"({a})+({c})")
            if a != "0":
                self.assert_less(f"({a})*({b})", f"({a})*({c})")
            if a not in ["0", "1"]:
                self.assert_less(f"({a})^({b})", f"({a})^({c})")

    def test_at_the_left_hand_the_order_is_kept_weakly(self):
        for (b, c), a in itertools.product(PAIRS, TEXTS):
            self.assert_not_above(f"({b})+({a})", f"({c})+({a})")
            self.assert_not_above(f"({b})*({a})", f"({c})*({a})")
            if b != "0":
                self.assert_not_above(f"({b})^({a})", f"({c})^({a})")
        for a in ["1+w", "2*w", "2^w"]:
            self.assert_same(a, "w")

    def test_what_was_added_at_the_right_is_found_again(self):
        for a, b in itertools.product(TEXTS, repeat=2):
            self.assertEqual(self.desk.say(f"minus ({a})+({b}) {a}"), b)
            self.assertEqual(minus(plus(number(a), number(b)), number(a)), number(b))
        for a, b in PAIRS:
            self.assert_refused(TooHigh, self.desk.say, f"minus {a} {b}")
            rest = self.desk.say(f"minus {b} {a}")
            self.assert_same(f"({a})+({rest})", b)

    def test_a_quotient_and_its_rest_are_found_again(self):
        for b, q, r in TRIPLES:
            if compare(number(r), number(b)) < 0:
                self.assertEqual(self.desk.say(f"share ({b})*({q})+({r}) {b}"), f"{q} {r}")
        for a, b in itertools.product(TEXTS, TEXTS[1:]):
            q, r = self.desk.say(f"share {a} {b}").split(" ")
            self.assert_same(f"({b})*({q})+({r})", a)
            self.assert_less(r, b)
            self.assertEqual((read(q), read(r)), divided(read(a), read(b)))

    def test_in_one_way_only(self):
        for b in ["1", "2", "w", "w+1", "w*3+2", "w^w+w*2+1"]:
            rests = [r for r in TEXTS if compare(number(r), number(b)) < 0]
            met = [self.desk.say(f"tell ({b})*({q})+({r})") for q in TEXTS for r in rests]
            self.assertEqual(len(set(met)), len(met))
            self.assertEqual(len(set(self.desk.say(f"tell ({b})+({x})") for x in TEXTS)), len(TEXTS))

    def test_changing_places_in_a_sum(self):
        met = 0
        more = TEXTS + ["4", "6", "w*4", "w*6", "w^2*3+w+1", "w^w*2+w*2+1", "w^w*3+w*2+1"]
        for a, b in itertools.product(more, repeat=2):
            may = self.desk.say(f"hold ({a})+({b}) ({b})+({a})") == "same"
            found = self.desk.say(f"common {a} {b}")
            self.assertEqual(found != "none", may, (a, b))
            self.assertEqual(common(number(a), number(b)) is None, not may)
            if may:
                met += 1
                g, m, n = found.split(" ")
                self.assert_same(f"({g})*{m}", a)
                self.assert_same(f"({g})*{n}", b)
        self.assertGreater(met, 60)

    def test_factors_and_what_hangs_on_no_order(self):
        for a in NUMBERS[1:]:
            found = "*".join(["1"] + [f"({shown(factor)})" for factor in factors(a)])
            self.assert_same(found, shown(a))
        for a, b in itertools.product(NUMBERS, repeat=2):
            self.assertEqual(merged(a, b), merged(b, a))
            self.assertEqual(woven(a, b), woven(b, a))
            self.assert_not_above(f"({shown(a)})+({shown(b)})", shown(merged(a, b)))
            self.assert_not_above(f"({shown(a)})*({shown(b)})", shown(woven(a, b)))

    def test_texts_come_to_what_the_functions_tell(self):
        for a, b in itertools.product(TEXTS, repeat=2):
            for sign, function in [("+", plus), ("*", times), ("^", power)]:
                expected = function(number(a), number(b))
                self.assertEqual(read(f"({a}){sign}({b})"), expected)
                self.assertEqual(read(f"a{sign}b", {"a": number(a), "b": number(b)}), expected)
                self.assertEqual(self.desk.say(f"tell ({a}){sign}({b})"), shown(expected))


class Ladders(Asked):
    def test_each_lesser_number_is_passed_at_a_told_rung(self):
        for a, b in itertools.product(TEXTS, repeat=2):
            if not is_limit(number(a)):
                self.assert_refused(NoLimit, self.desk.say, f"rung {a} {b}")
            elif compare(number(b), number(a)) >= 0:
                self.assert_refused(TooHigh, self.desk.say, f"rung {a} {b}")
            else:
                n = int(self.desk.say(f"rung {a} {b}"))
                self.assertEqual(n, rung(number(a), number(b)))
                self.assertLessEqual(n, greatest(number(b)) + 1)
                self.assert_less(b, self.desk.say(f"step {a} {n}"))
                if n > 0:
                    self.assert_not_above(self.desk.say(f"step {a} {n - 1}"), b)

    def test_rungs_climb_below_the_limit(self):
        for a in TEXTS[1:]:
            rungs = [self.desk.say(f"step {a} {n}") for n in range(6)]
            self.assertEqual(rungs, [shown(ladder(number(a), n)) for n in range(6)])
            for low, high in zip(rungs, rungs[1:]):
                self.assert_less(low, a)
                if is_limit(number(a)):
                    self.assert_less(low, high)

    def test_ways_down_come_to_their_end(self):
        for text in TEXTS[:10]:
            found = way_down(number(text), lambda step: step % 3, 300)
            self.assertEqual(found[-1], ZERO)
            self.assert_falls(found)


class Trees(Asked):
    def test_each_cut_leads_to_a_lesser_number(self):
        for tree in [tree for tree in TREES if tree != BARE][::4]:
            text = tree_shown(tree)
            before = self.desk.say(f"tree {text}")
            for way, many in itertools.product(heads(tree), [0, 1, 3]):
                told = self.desk.say(f"cut {text} {'.'.join(map(str, way))} {many}").split(" ")
                self.assert_less(told[1], before)
                self.assertEqual(told[1], self.desk.say(f"tree {told[0]}"))
                self.assertEqual(tree_read(told[0]), cut(tree, way, many))

    def test_the_least_head_goes_to_the_next_rung(self):
        for tree in [tree for tree in TREES if tree != BARE][::4]:
            way = ".".join(map(str, least_head(tree)))
            for many in range(3):
                told = self.desk.say(f"cut {tree_shown(tree)} {way} {many}").split(" ")[1]
                self.assertEqual(told, self.desk.say(f"step {shown(number_of(tree))} {many + 1}"))

    def test_plays_come_to_their_end(self):
        for tree in [stick(3), (star(2), stick(2)), star(9), (star(1), star(3))]:
            found = felled(tree, lambda step: step % 2, 300)
            self.assertEqual(found[-1], BARE)
            self.assert_falls([number_of(met) for met in found])
        chance = random.Random(1)
        for tree in [stick(3), (star(2), stick(2)), ((star(2),), ())]:
            play = Play(tree)
            while play.tree() != BARE:
                play.cut(chance.choice(heads(play.tree())), chance.randrange(2))
            self.assert_falls(play.numbers())

    def test_trees_of_numbers(self):
        for a in NUMBERS:
            self.assertEqual(self.desk.say(f"tree {tree_shown(tree_of(a))}"), shown(a))


class Bases(Asked):
    def test_each_step_of_a_row_leads_to_a_lesser_number(self):
        for m, base in [(1, 2), (3, 2), (4, 2), (10, 2), (15, 2), (100, 3), (1000, 3), (1000, 7), (10 ** 20, 30)]:
            found = row(m, base, 5)
            self.assertEqual(self.desk.say(f"write {m} {base}"), shown(found[0][1]))
            for (low, a), (high, b) in zip(found, found[1:]):
                self.assertEqual(self.desk.say(f"down {shown(a)} {high}"), shown(b))
                self.assertEqual(down(a, high), b)
                at_high = int(self.desk.say(f"worth {shown(a)} {high}"))
                self.assertEqual(int(self.desk.say(f"worth {shown(b)} {high}")), at_high - 1)
                self.assertEqual(worth(a, high), at_high)
            self.assert_falls([a for base, a in found])

    def test_rows_come_to_their_end(self):
        for m in range(4):
            self.assertEqual(row(m)[-1][1], ZERO)
            self.assert_falls([a for base, a in row(m)])
        self.assertEqual(row(9, 9, 300)[-1][1], ZERO)


class Programs(Asked):
    def test_each_step_leads_to_a_lesser_number(self):
        met = 0
        for things, boxes in some_programs(60):
            rows = built(things)
            try:
                found = trace(rows, boxes, 40)
            except NoFall:
                continue
            met += 1
            self.assertEqual(found[0][0], weight(rows))
            self.assert_falls([told for told, held in found])
        self.assertGreater(met, 20)

    def test_a_program_comes_to_its_end(self):
        marks = [(ONE, "a"), (ZERO, "b")]
        rows = built([
            ("set", "a", 3), ("set", "b", 2),
            ("while", "a", marks, [("less", "a"), ("times", "b", [("add", "c", "b")]), ("copy", "b", "a")]),
        ])
        found = trace(rows, {}, 300)
        self.assertEqual(found[-1], (ZERO, {"c": 9}))
        self.assert_falls([told for told, held in found])


class Chores(Asked):
    RULES = {"house": ["room", "roof"], "room": ["shelf", "floor"], "shelf": ["book"], "roof": []}

    def test_each_exchange_leads_to_a_lesser_number(self):
        word, ranking = ranks(self.RULES)
        self.assertEqual((word, ranking), ("ranks", {
            "house": 3, "room": 2, "shelf": 1, "roof": 0, "floor": 0, "book": 0,
        }))
        heap = {"house": 2, "book": 1}
        numbers = [heap_number(ranking, heap)]
        while any(kind in self.RULES for kind in heap):
            kind = [kind for kind in heap if kind in self.RULES][-1]
            heap = exchange(self.RULES, heap, kind, dict((other, 2) for other in self.RULES[kind]))
            numbers.append(heap_number(ranking, heap))
        self.assertEqual(self.desk.say(f"tell {shown(numbers[0])}"), "w^3*2+1")
        self.assert_falls(numbers)
        self.assertEqual(heap, {"book": 1 + 2 * 2 * 2 * 2, "floor": 2 * 2 * 2})
        self.assertEqual(numbers[-1], whole(25))

    def test_what_can_go_on_without_end_is_told_with_its_ring(self):
        rules = dict(self.RULES)
        rules["book"] = ["room", "roof"]
        word, ring = ranks(rules)
        self.assertEqual((word, sorted(ring)), ("ring", ["book", "room", "shelf"]))
        heap = {"roof": 1, ring[0]: 1}
        for turn in range(3):
            found = heap
            for kind, other in zip(ring, ring[1:] + ring[:1]):
                found = exchange(rules, found, kind, {other: 1})
            self.assertEqual(found, heap)

    def test_ranks_just_where_there_is_no_ring(self):
        chance = random.Random(2)
        met = {"ranks": 0, "ring": 0}
        for turn in range(200):
            kinds = [f"k{n}" for n in range(5)]
            rules = dict((kind, chance.sample(kinds, chance.randrange(3))) for kind in kinds)
            word, found = ranks(rules)
            met[word] += 1
            if word == "ranks":
                # Ranks fall along each list, so that there can be no ring.
                self.assertTrue(all(found[other] < found[kind] for kind in rules for other in rules[kind]))
            else:
                self.assertTrue(all(b in rules[a] for a, b in zip(found, found[1:] + found[:1])))
        self.assertGreater(min(met.values()), 20)


class Refusals(Asked):
    def test_a_refusal_at_the_desk_is_that_of_the_function(self):
        for a, b in itertools.product(TEXTS, repeat=2):
            for first, function in [("minus", minus), ("share", divided), ("rung", rung)]:
                try:
                    function(number(a), number(b))
                except HydraError as refusal:
                    self.assert_refused(refusal.__class__, self.desk.say, f"{first} {a} {b}")
                else:
                    self.assertIsInstance(self.desk.say(f"{first} {a} {b}"), str)


if __name__ == "__main__":
    unittest.main()
