import unittest

from cases import Case
from hydrahouse import trees
from hydrahouse.errors import NoHead, NoNumber, Nought, TooGreat
from hydrahouse.forms import compare, is_number
from hydrahouse.ladders import ladder
from hydrahouse.sums import merged
from hydrahouse.trees import cut, heads, least_head, number_of, points, tree_of
from samples import MIXED, NO_WHOLES, ONE, RISING, W, ZERO, broad, number, tower
from woods import (
    BARE, FORKED, GREAT, MORE, NO_HEADS, TREES, TWIG, all_ways, cut_by_the_words, point_at, star, stick,
)


class Interface(Case):
    def test_arguments(self):
        expected = {
            "points": "(tree)", "heads": "(tree)", "number_of": "(tree)", "cut": "(tree, way, many=1)",
            "least_head": "(tree)", "tree_of": "(a)",
        }
        self.assert_arguments(trees, expected)


class Points(Case):
    def test_written_out(self):
        table = [
            (BARE, 1), (TWIG, 2), (star(2), 3), (stick(2), 3), ((TWIG, BARE), 4), (stick(40), 41), (star(599), 600),
            ((star(3), TWIG, (star(2), BARE)), 1 + 4 + 2 + 5), ((star(20),) * 28, 589),
        ]
        for tree, expected in table:
            with self.subTest(tree=str(tree)[:80]):
                self.assertEqual(points(tree), expected)

    def test_one_for_each_way(self):
        for tree in TREES + MORE:
            self.assertEqual(points(tree), len(all_ways(tree)))


class Heads(Case):
    def test_written_out(self):
        table = [
            (BARE, []), (TWIG, [(0,)]), (star(3), [(0,), (1,), (2,)]), (stick(3), [(0, 0, 0)]),
            ((TWIG, BARE), [(0, 0), (1,)]), ((BARE, TWIG), [(0,), (1, 0)]),
            ((star(2), (star(1), star(2), BARE)), [(0, 0), (0, 1), (1, 0, 0), (1, 1, 0), (1, 1, 1), (1, 2)]),
        ]
        for tree, expected in table:
            with self.subTest(tree=tree):
                self.assertEqual(heads(tree), expected)

    def test_just_the_points_without_branches(self):
        for tree in TREES + MORE:
            expected = [way for way in all_ways(tree) if way != () and point_at(tree, way) == BARE]
            self.assertEqual(heads(tree), sorted(expected), str(tree)[:200])

    def test_places_above_nine_stand_behind(self):
        self.assertEqual(heads(star(599)), [(place,) for place in range(599)])

    def test_a_list_of_ones_own(self):
        self.assert_own_list(heads, (TWIG, BARE))
        heads(BARE).append("more")
        self.assertEqual(heads(BARE), [])


class NumberOf(Case):
    def test_written_out(self):
        table = [
            (BARE, "0"), (TWIG, "1"), (star(2), "2"), (star(599), "599"), (stick(2), "w"), (stick(3), "w^w"),
            ((star(2),), "w^2"), ((TWIG, BARE), "w+1"), ((BARE, TWIG), "w+1"), ((TWIG, TWIG), "w*2"),
            ((BARE, TWIG, BARE, stick(2), TWIG, BARE), "w^w+w*2+3"), (((TWIG, BARE), star(3), TWIG), "w^(w+1)+w^3+w"),
            (((BARE, TWIG), (TWIG, BARE), TWIG), "w^(w+1)*2+w"), ((star(20),) * 28, "w^20*28"),
        ]
        for tree, expected in table:
            with self.subTest(tree=str(tree)[:80]):
                self.assertEqual(number_of(tree), number(expected))

    def test_by_the_rule(self):
        for tree in TREES + MORE:
            expected = ZERO
            for branch in reversed(tree):
                expected = merged(((number_of(branch), 1),), expected)
            self.assertEqual(number_of(tree), expected, str(tree)[:200])
            self.assertTrue(is_number(expected))

    def test_a_stick(self):
        self.assertEqual(number_of(stick(40)), tower(39))


class Cut(Case):
    def test_on_the_root(self):
        table = [
            (TWIG, (0,), BARE), (star(3), (1,), star(2)), ((TWIG, BARE, stick(2)), (1,), (TWIG, stick(2))),
            ((BARE, TWIG), (0,), (TWIG,)),
        ]
        for tree, way, expected in table:
            for many in [0, 1, 2, 7, 600, GREAT]:
                with self.subTest(tree=tree, many=many):
                    self.assertEqual(cut(tree, way, many), expected)

    def test_further_up(self):
        table = [
            (stick(2), (0, 0), 0, (BARE,)), (stick(2), (0, 0), 1, star(2)), (stick(2), (0, 0), 4, star(5)),
            (stick(3), (0, 0, 0), 2, (star(3),)), ((star(2),), (0, 1), 2, (TWIG, TWIG, TWIG)),
            # right behind p, ahead of what stood behind it
            ((stick(2), star(2), stick(3)), (1, 0), 2, (stick(2), TWIG, TWIG, TWIG, stick(3))),
            # only the branch that was cut goes from p
            (((TWIG, BARE, stick(2)), BARE), (0, 1), 1, ((TWIG, stick(2)), (TWIG, stick(2)), BARE)),
            # the first of two alike
            ((star(2), star(2)), (0, 1), 0, (TWIG, star(2))), ((star(2), star(2)), (1, 1), 0, (star(2), TWIG)),
            # what grows, grows where p hangs, not on the root
            ((BARE, (BARE, (BARE, BARE), BARE)), (1, 1, 0), 3, (BARE, (BARE, TWIG, TWIG, TWIG, TWIG, BARE))),
        ]
        for tree, way, many, expected in table:
            with self.subTest(tree=tree, way=way, many=many):
                self.assertEqual(cut(tree, way, many), expected)

    def test_one_new_one_where_none_is_told(self):
        self.assertEqual(cut(stick(2), (0, 0)), star(2))

    def test_each_head_by_the_words(self):
        for tree in TREES + MORE[:4]:
            for way in heads(tree):
                for many in [0, 1, 3]:
                    self.assertEqual(cut(tree, way, many), cut_by_the_words(tree, way, many), str((tree, way, many)))

    def test_each_cut_leads_to_a_lesser_number(self):
        for tree in TREES + MORE[:4]:
            before = number_of(tree)
            for way in heads(tree):
                for many in [0, 1, 2, 9]:
                    found = cut(tree, way, many)
                    self.assertEqual(compare(number_of(found), before), -1, str((tree, way, many)))

    def test_600_points_and_601(self):
        table = [
            # tree, way, how many new ones may just be, how many points are left then
            (stick(2), (0, 0), 598, 600), ((TWIG,) * 10, (3, 0), 580, 600), ((star(2),), (0, 0), 298, 599),
            (star(100) + (star(50),), (100, 7), 8, 551), (stick(30) + stick(2), (1, 0), 568, 600),
        ]
        for tree, way, most, left in table:
            with self.subTest(tree=str(tree)[:80]):
                found = cut(tree, way, most)
                self.assertEqual(found, cut_by_the_words(tree, way, most))
                self.assertEqual(points(found), left)
                self.assert_refused(TooGreat, cut, tree, way, most + 1)
        self.assert_refused(TooGreat, cut, stick(2), (0, 0), GREAT)
        self.assert_refused(TooGreat, cut, (star(300),), (0, 4), GREAT)

    def test_a_tree_of_600_points(self):
        # what stands at p behind the cut is one point, and two
        tree = star(597) + (TWIG,)
        self.assertEqual(points(tree), 600)
        self.assertEqual(cut(tree, (597, 0), 0), star(598))
        self.assertEqual(cut(tree, (597, 0), 1), star(599))
        self.assert_refused(TooGreat, cut, tree, (597, 0), 2)
        self.assertEqual(cut(tree, (5,), GREAT), star(596) + (TWIG,))
        tree = star(596) + (star(2),)
        self.assertEqual(cut(tree, (596, 1), 0), star(596) + (TWIG,))
        self.assert_refused(TooGreat, cut, tree, (596, 1), 1)

    def test_a_tree_somewhat_beyond(self):
        self.assertEqual(cut(star(600), (0,), 3), star(599))
        self.assert_refused(TooGreat, cut, star(601), (0,), 0)

    def test_no_head(self):
        for way in NO_HEADS:
            for many in [1, 0, GREAT, -1, None, "1"]:
                with self.subTest(way=str(way)[:80], many=str(many)[:80]):
                    self.assert_refused(NoHead, cut, FORKED, way, many)

    def test_the_bare_point_has_none(self):
        for way in [(), (0,), (0, 0), None, [], True]:
            with self.subTest(way=way):
                self.assert_refused(NoHead, cut, BARE, way)

    def test_no_number(self):
        for tree, way in [(TWIG, (0,)), (stick(2), (0, 0)), (star(700), (0,)), (stick(5) + star(700), (9,))]:
            for many in NO_WHOLES:
                with self.subTest(many=str(many)[:80], way=way):
                    self.assert_refused(NoNumber, cut, tree, way, many)


class LeastHead(Case):
    def test_written_out(self):
        table = [
            (TWIG, (0,)), (star(3), (2,)), (stick(3), (0, 0, 0)), ((TWIG, BARE), (1,)), ((BARE, TWIG), (0,)),
            ((BARE, TWIG, BARE, TWIG), (2,)), ((TWIG, TWIG, stick(2)), (1, 0)), ((star(2), TWIG), (1, 0)),
            ((star(2), star(3), star(2), star(3)), (2, 1)), ((stick(2), star(9)), (1, 8)),
            # alike in number, though not in their order
            (((BARE, TWIG), (TWIG, BARE)), (1, 1)), (((TWIG, BARE), (BARE, TWIG)), (1, 0)),
        ]
        for tree, expected in table:
            with self.subTest(tree=tree):
                self.assertEqual(least_head(tree), expected)

    def test_by_the_words(self):
        for tree in TREES[1:] + MORE:
            way = ()
            while point_at(tree, way) != BARE:
                branches = point_at(tree, way)
                least = min([number_of(branch) for branch in branches])
                way += (max([n for n in range(len(branches)) if number_of(branches[n]) == least]),)
            self.assertEqual(least_head(tree), way, str(tree)[:200])

    def test_cut_it_and_the_number_is_a_rung_of_what_it_was(self):
        for tree in TREES[1:] + MORE[:4]:
            for n in [0, 1, 2, 7]:
                found = number_of(cut(tree, least_head(tree), n))
                self.assertEqual(found, ladder(number_of(tree), n + 1), str((tree, n))[:200])

    def test_the_bare_point(self):
        self.assert_refused(Nought, least_head, BARE)


class TreeOf(Case):
    def test_written_out(self):
        table = [
            ("0", BARE), ("1", TWIG), ("3", star(3)), ("w", stick(2)), ("w*2", (TWIG, TWIG)),
            ("w+2", (TWIG, BARE, BARE)), ("w^w", stick(3)), ("w^2", (star(2),)),
            ("w^(w+1)*2+w^3+1", ((TWIG, BARE), (TWIG, BARE), star(3), BARE)),
            ("w^(w^w*2+w+1)", ((stick(2), stick(2), TWIG, BARE),)),
        ]
        for a, expected in table:
            with self.subTest(a=a):
                self.assertEqual(tree_of(number(a)), expected)

    def test_leads_back(self):
        for a in MIXED:
            self.assertEqual(number_of(tree_of(a)), a)
        for tree in TREES:
            self.assertEqual(points(tree_of(number_of(tree))), points(tree))

    def test_600_points_and_601(self):
        table = [
            ("599", "600"), ("w^598", "w^599"), ("w^598", "w^598+1"), ("w*299+1", "w*299+2"), ("w*299+1", "w*300"),
            ("w^20*28+11", "w^20*28+12"), ("w^(w^300+w*101)+w^45*2+3", "w^(w^300+w*101)+w^45*2+4"),
            ("w^(w^(w^596))", "w^(w^(w^597))"), ("w^(w^(w^596))", "w^(w^(w^596)+1)"),
        ]
        for a, b in table:
            with self.subTest(a=a, b=b):
                found = tree_of(number(a))
                self.assertEqual(points(found), 600)
                self.assertEqual(number_of(found), number(a))
                self.assert_refused(TooGreat, tree_of, number(b))

    def test_far_too_many(self):
        for a in [(((), GREAT),), ((W, GREAT),), (((((), GREAT),), 1),), broad(3000), ((broad(3000), 1),)]:
            self.assert_refused(TooGreat, tree_of, a)
        high = ONE
        for step in range(44):
            high = ((high, GREAT),)
        self.assert_refused(TooGreat, tree_of, high)

    def test_at_the_bounds(self):
        self.assertEqual(tree_of(tower(44)), stick(45))


class HandedIn(Case):
    def test_is_not_changed(self):
        tree = (star(3), TWIG, (star(2), BARE), BARE, stick(3))
        for function in [points, heads, number_of, least_head]:
            self.assert_unchanged(function, tree)
        self.assert_unchanged(cut, tree, (2, 0, 1), 3)
        self.assert_unchanged(cut, tree, (3,), 3)
        self.assert_unchanged(tree_of, RISING[13])
        way = [1, 0]
        self.assert_refused(NoHead, cut, tree, way)
        self.assertEqual(way, [1, 0])


if __name__ == "__main__":
    unittest.main()
