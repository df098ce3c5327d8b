import unittest

from cases import Case
from hydrahouse import plays
from hydrahouse.errors import NoHead, NoNumber, NoStep, TooGreat
from hydrahouse.forms import compare
from hydrahouse.ladders import way_down
from hydrahouse.plays import Play, felled
from hydrahouse.trees import heads, least_head, number_of, points
from samples import NO_WHOLES, ZERO, number, tower
from woods import BARE, FORKED, GREAT, MORE, NO_HEADS, TREES, TWIG, cut_by_the_words, star, stick


def always(n):
    return lambda step: n


class Interface(Case):
    def test_arguments(self):
        self.assert_arguments(plays, {"felled": "(tree, rule, most=20)", "Play": "(tree)"})
        methods = {"tree": "(self)", "cut": "(self, way, many=1)", "back": "(self)", "numbers": "(self)"}
        self.assert_arguments(Play, methods)


class Felled(Case):
    def test_written_out(self):
        table = [
            (BARE, 3, 20, [BARE]), (BARE, 3, 0, [BARE]), (TWIG, 3, 20, [TWIG, BARE]), (TWIG, 3, 0, [TWIG]),
            (TWIG, 3, 1, [TWIG, BARE]), (stick(2), 0, 20, [stick(2), TWIG, BARE]),
            (stick(2), 2, 20, [stick(2), star(3), star(2), TWIG, BARE]),
            (stick(2), 2, 3, [stick(2), star(3), star(2), TWIG]), (stick(2), 2, 4, [stick(2), star(3), star(2), TWIG, BARE]),
            (stick(3), 1, 4, [stick(3), (star(2),), (TWIG, TWIG), (TWIG, BARE, BARE), (TWIG, BARE)]),
            ((BARE, TWIG), 1, 20, [(BARE, TWIG), (TWIG,), star(2), TWIG, BARE]),
        ]
        for tree, n, most, expected in table:
            with self.subTest(tree=tree, n=n, most=most):
                self.assertEqual(felled(tree, always(n), most), expected)

    def test_twenty_cuts_where_none_are_told(self):
        self.assertEqual(felled(star(20), always(1)), [star(many) for many in range(20, -1, -1)])
        self.assertEqual(felled(star(21), always(1)), [star(many) for many in range(21, 0, -1)])

    def test_the_rule_is_asked_cut_by_cut(self):
        asked = []

        def rule(step):
            asked.append(step)
            return step + 1

        found = felled(stick(3), rule, 3)
        expected = [stick(3), (star(2),), (TWIG, TWIG, TWIG), (TWIG, TWIG, BARE, BARE, BARE, BARE)]
        self.assertEqual(found, expected)
        self.assertEqual(asked, [0, 1, 2])
        self.assertEqual(felled(TWIG, lambda step: [5][step]), [TWIG, BARE])

    def test_the_least_head_is_cut_by_the_words(self):
        for tree in TREES + MORE[:3]:
            found = felled(tree, lambda step: step % 3, 6)
            with self.subTest(tree=tree):
                self.assertEqual(found[0], tree)
                for step, (x, y) in enumerate(zip(found, found[1:])):
                    self.assertEqual(y, cut_by_the_words(x, least_head(x), step % 3))
                self.assertTrue(found[-1] == BARE or len(found) == 7)
                self.assertNotIn(BARE, found[:-1])

    def test_the_numbers_are_a_way_down_by_rungs_and_fall(self):
        for tree in TREES + MORE[:3]:
            numbers = [number_of(x) for x in felled(tree, lambda step: step % 4, 8)]
            self.assertEqual(numbers, way_down(number_of(tree), lambda step: step % 4 + 1, 8), str(tree))
            for a, b in zip(numbers, numbers[1:]):
                self.assertEqual(compare(b, a), -1)

    def test_too_great(self):
        self.assertEqual(points(felled(stick(2), always(598), 1)[-1]), 600)
        self.assert_refused(TooGreat, felled, stick(2), always(599), 1)
        self.assert_refused(TooGreat, felled, stick(2), always(GREAT))
        self.assert_refused(TooGreat, felled, stick(40), always(1), 300)

    def test_too_great_only_where_a_cut_is_made(self):
        self.assertEqual(felled(stick(2), always(GREAT), 0), [stick(2)])
        rule = [0, 1, GREAT, GREAT]
        found = felled(stick(4), lambda step: rule[step], 2)
        self.assertEqual(found, [stick(4), stick(3), (star(2),)])
        self.assert_refused(TooGreat, felled, stick(4), lambda step: rule[step], 3)
        # heads on the root grow nothing again
        self.assertEqual(felled(star(2), always(GREAT)), [star(2), TWIG, BARE])

    def test_a_list_of_ones_own(self):
        self.assert_own_list(felled, stick(3), always(1))
        self.assert_own_list(felled, BARE, always(1))

    def test_nothing_handed_in_is_changed(self):
        self.assert_unchanged(felled, MORE[0], always(1))

    def test_at_the_bounds(self):
        self.assertEqual(felled(stick(40), always(0), 300), [stick(height) for height in range(40, -1, -1)])
        self.assertEqual(felled(star(599), always(9), 300)[-1], star(299))
        found = felled((star(300),) + star(298), always(0), 300)
        self.assertEqual(found[-2:], [(star(299),), (star(298),)])


class PlayOn(Case):
    def assert_stands(self, play, trees):
        self.assertEqual(play.tree(), trees[-1])
        self.assertEqual(play.numbers(), [number_of(tree) for tree in trees])

    def test_at_first(self):
        for tree in TREES[:20] + MORE:
            self.assert_stands(Play(tree), [tree])
        self.assertEqual(Play(BARE).numbers(), [ZERO])
        self.assertEqual(Play(stick(40)).numbers(), [tower(39)])

    def test_written_out(self):
        play = Play((star(2), BARE))
        self.assertEqual(play.cut((0, 1), 2), number("w*3+1"))
        self.assertEqual(play.tree(), (TWIG, TWIG, TWIG, BARE))
        self.assertEqual(play.cut((3,)), number("w*3"))
        self.assertEqual(play.cut((1, 0)), number("w*2+2"))
        self.assertEqual(play.tree(), (TWIG, BARE, BARE, TWIG))
        self.assertEqual(play.numbers(), [number(text) for text in ["w^2+1", "w*3+1", "w*3", "w*2+2"]])
        self.assertEqual(play.back(), number("w*3"))
        self.assertEqual(play.tree(), (TWIG, TWIG, TWIG))
        self.assertEqual(play.cut((2, 0), 0), number("w*2+1"))
        self.assertEqual(play.tree(), (TWIG, TWIG, BARE))
        self.assertEqual(play.numbers(), [number(text) for text in ["w^2+1", "w*3+1", "w*3", "w*2+1"]])

    def test_each_cut_by_the_words_and_to_a_lesser_number(self):
        for tree in TREES + MORE[:4]:
            for way in heads(tree):
                play = Play(tree)
                told = play.cut(way, 2)
                found = cut_by_the_words(tree, way, 2)
                self.assert_stands(play, [tree, found])
                self.assertEqual(told, number_of(found))
                self.assertEqual(compare(told, number_of(tree)), -1)

    def test_one_new_one_where_none_is_told(self):
        play = Play(stick(2))
        self.assertEqual(play.cut((0, 0)), number("2"))
        self.assertEqual(play.tree(), star(2))

    def test_to_the_bare_point_and_back_again(self):
        play = Play(stick(3))
        met = [stick(3)]
        while play.tree() != BARE:
            play.cut(heads(play.tree())[0], 1)
            met.append(play.tree())
        texts = ["w^w", "w^2", "w*2", "w+2", "w+1", "w", "2", "1", "0"]
        self.assertEqual(play.numbers(), [number(text) for text in texts])
        for way in [(), (0,), None]:
            self.assert_refused(NoHead, play.cut, way)
        self.assert_stands(play, met)
        while len(met) > 1:
            met.pop()
            self.assertEqual(play.back(), number_of(met[-1]))
            self.assert_stands(play, met)
        for again in range(3):
            self.assert_refused(NoStep, play.back)
            self.assert_stands(play, [stick(3)])
        self.assertEqual(play.cut((0, 0, 0), 0), number("w"))
        self.assert_stands(play, [stick(3), stick(2)])

    def test_no_cut_to_take_back(self):
        for tree in [BARE, TWIG, FORKED]:
            play = Play(tree)
            self.assert_refused(NoStep, play.back)
            self.assert_stands(play, [tree])

    def test_a_refused_cut_is_none_to_take_back(self):
        play = Play(TWIG)
        self.assert_refused(NoHead, play.cut, (1,))
        self.assert_refused(NoStep, play.back)

    def test_refused_and_nothing_has_changed(self):
        for trees in [[FORKED], [FORKED + (TWIG,), FORKED + (BARE,), FORKED]]:
            play = Play(trees[0])
            for tree in trees[1:]:
                play.cut((3, 0) if len(play.tree()[3]) == 1 else (3,), 0)
            self.assert_stands(play, trees)
            for way in NO_HEADS:
                for many in [1, GREAT, -1, None]:
                    self.assert_refused(NoHead, play.cut, way, many)
            self.assert_stands(play, trees)
            for many in NO_WHOLES:
                self.assert_refused(NoNumber, play.cut, (1,), many)
                self.assert_refused(NoNumber, play.cut, (0, 1), many)
            self.assert_stands(play, trees)
            for many in [600, GREAT]:
                self.assert_refused(TooGreat, play.cut, (0, 1), many)
            self.assert_stands(play, trees)
            for tree in reversed(trees[:-1]):
                self.assertEqual(play.back(), number_of(tree))
            self.assert_refused(NoStep, play.back)
            self.assert_stands(play, trees[:1])

    def test_600_points_and_601(self):
        play = Play(stick(2))
        self.assert_refused(TooGreat, play.cut, (0, 0), 599)
        self.assert_stands(play, [stick(2)])
        self.assertEqual(play.cut((0, 0), 598), number("599"))
        self.assert_stands(play, [stick(2), star(599)])

    def test_two_plays_of_one_tree(self):
        first = Play(FORKED)
        second = Play(FORKED)
        first.cut((1,))
        self.assert_stands(second, [FORKED])
        self.assert_refused(NoStep, second.back)
        self.assert_stands(first, [FORKED, (FORKED[0], FORKED[2])])

    def test_numbers_are_the_askers_own(self):
        play = Play(stick(2))
        at_first = play.numbers()
        play.cut((0, 0), 2)
        behind = play.numbers()
        self.assertEqual(at_first, [number("w")])
        behind.append("more")
        behind[0] = "other"
        self.assert_stands(play, [stick(2), star(3)])
        self.assert_own_list(play.numbers)
        told = play.numbers()
        play.back()
        self.assertEqual(told, [number("w"), number("3")])

    def test_many_cuts(self):
        play = Play((star(30),) + star(560))
        for step in range(300):
            play.cut((len(play.tree()) - 1,), GREAT)
        self.assertEqual(play.tree(), (star(30),) + star(260))
        self.assertEqual(len(play.numbers()), 301)
        for step in range(300):
            play.back()
        self.assert_stands(play, [(star(30),) + star(560)])
        self.assert_refused(NoStep, play.back)


if __name__ == "__main__":
    unittest.main()
