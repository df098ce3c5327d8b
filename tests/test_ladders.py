import unittest

from cases import Case
from hydrahouse import ladders
from hydrahouse.errors import NoLimit, NoNumber, Nought, TooHigh
from hydrahouse.forms import compare, greatest, is_limit, is_number
from hydrahouse.ladders import ladder, rung, way_down
from samples import (
    EXPONENTS, FIVE, MIXED, NO_WHOLES, ONE, RISING, TWO, W, W_W, ZERO, broad, choices, named, number, tower,
)

GREAT = 10 ** 399
LIMITS = [a for a in RISING + MIXED if is_limit(a)]
SMALL = choices(EXPONENTS[:5], 3, [1, 2])


class Interface(Case):
    def test_arguments(self):
        expected = {"ladder": "(a, n)", "rung": "(a, b)", "way_down": "(a, rule, most=20)"}
        self.assert_arguments(ladders, expected)


class Ladder(Case):
    def test_written_out(self):
        # number, rungs 0, 1, 2 and 5
        table = [
            # successors
            ("1", "0", "0", "0", "0"), ("7", "6", "6", "6", "6"), ("w+1", "w", "w", "w", "w"),
            ("w*2+3", "w*2+2", "w*2+2", "w*2+2", "w*2+2"),
            # limits, the last exponent a successor
            ("w", "0", "1", "2", "5"), ("w*2", "w", "w+1", "w+2", "w+5"), ("w^2", "0", "w", "w*2", "w*5"),
            ("w^3*4", "w^3*3", "w^3*3+w^2", "w^3*3+w^2*2", "w^3*3+w^2*5"), ("w^2+w", "w^2", "w^2+1", "w^2+2", "w^2+5"),
            ("w^(w+1)", "0", "w^w", "w^w*2", "w^w*5"), ("w^(w*2+3)", "0", "w^(w*2+2)", "w^(w*2+2)*2", "w^(w*2+2)*5"),
            # limits of limits
            ("w^w", "1", "w", "w^2", "w^5"), ("w^w*3", "w^w*2+1", "w^w*2+w", "w^w*2+w^2", "w^w*2+w^5"),
            ("w^(w*2)", "w^w", "w^(w+1)", "w^(w+2)", "w^(w+5)"), ("w^(w^2)", "1", "w^w", "w^(w*2)", "w^(w*5)"),
            ("w^(w^w)", "w", "w^w", "w^(w^2)", "w^(w^5)"), ("w^(w^(w+1))", "1", "w^(w^w)", "w^(w^w*2)", "w^(w^w*5)"),
            ("w^(w^w)+w^w", "w^(w^w)+1", "w^(w^w)+w", "w^(w^w)+w^2", "w^(w^w)+w^5"),
        ]
        for a, *rungs in table:
            for n, expected in zip([0, 1, 2, 5], rungs):
                with self.subTest(a=a, n=n):
                    self.assertEqual(ladder(number(a), n), number(expected))

    def test_each_rung_is_below_and_of_a_limit_below_the_next(self):
        for a in RISING[1:] + MIXED[1:]:
            rungs = [ladder(a, n) for n in range(6)]
            with self.subTest(**named(a)):
                for x in rungs:
                    self.assertTrue(is_number(x))
                    self.assertEqual(compare(x, a), -1)
                for x, y in zip(rungs, rungs[1:]):
                    self.assertEqual(compare(x, y), -1 if is_limit(a) else 0)

    def test_rungs_of_many_figures(self):
        self.assertEqual(ladder(W, GREAT), (((), GREAT),))
        self.assertEqual(ladder(W_W, GREAT), (((((), GREAT),), 1),))
        self.assertEqual(ladder(((ONE, GREAT),), GREAT), ((ONE, GREAT - 1), ((), GREAT)))
        self.assertEqual(ladder((((), GREAT),), 3), (((), GREAT - 1),))

    def test_of_nought(self):
        for n in [0, 1, GREAT] + NO_WHOLES:
            with self.subTest(n=str(n)[:80]):
                self.assert_refused(Nought, ladder, ZERO, n)

    def test_no_whole_number(self):
        for a in [ONE, FIVE, W, number("w+1"), W_W, number("w^(w*2)*3")]:
            for n in NO_WHOLES:
                with self.subTest(n=str(n)[:80], **named(a)):
                    self.assert_refused(NoNumber, ladder, a, n)

    def test_at_the_bounds(self):
        self.assertEqual(ladder(tower(44), 1), tower(43))
        self.assertEqual(ladder(broad(3000), 9), broad(3000)[:-1] + (((), 2),))
        self.assertEqual(ladder(broad(3000)[:-1], 9), broad(3000)[:-2] + ((ONE, 2), ((), 9)))


class Rung(Case):
    def test_written_out(self):
        table = [
            ("w", "0", 1), ("w", "1", 2), ("w", "7", 8), ("w^2", "0", 1), ("w^2", "9", 1), ("w^2", "w", 2),
            ("w^2", "w*5+9", 6), ("w*2", "0", 0), ("w*2", "w", 1), ("w*2", "w+4", 5), ("w^3+w^2*2", "w^3+w*9", 0),
            ("w^3+w^2*2", "w^3+w^2", 1), ("w^3+w^2*2", "w^3+w^2+8", 1), ("w^3+w^2*2", "w^3+w^2+w*3+8", 4),
            ("w^w", "0", 0), ("w^w", "1", 1), ("w^w", "9", 1), ("w^w", "w", 2), ("w^w", "w^6*9+3", 7),
            ("w^w*2", "w^w", 0), ("w^w*2", "w^w+1", 1), ("w^w*2", "w^w+w^3", 4), ("w^w*2", "w^9", 0),
            ("w^(w*2)", "w^5", 0), ("w^(w*2)", "w^w", 1), ("w^(w*2)", "w^(w+4)*7", 5), ("w^(w^w)", "w^(w^3+9)", 4),
            ("w^(w^w)", "w", 1), ("w^(w^w)", "9", 0), ("w^(w+1)", "w^5", 1), ("w^(w+1)", "w^w*3+1", 4),
        ]
        for a, b, expected in table:
            with self.subTest(a=a, b=b):
                found = rung(number(a), number(b))
                self.assertEqual(found, expected)
                self.assertIs(found.__class__, int)

    def test_the_least_that_passes(self):
        for a in LIMITS:
            for b in RISING + MIXED:
                if compare(b, a) < 0:
                    n = rung(a, b)
                    self.assertEqual(compare(b, ladder(a, n)), -1, str((a, b))[:300])
                    self.assertLessEqual(n, greatest(b) + 1, str((a, b))[:300])
                    if n > 0:
                        self.assertGreaterEqual(compare(b, ladder(a, n - 1)), 0, str((a, b))[:300])

    def test_a_rung_is_passed_by_the_next(self):
        for a in LIMITS:
            for n in [0, 1, 2, 5, GREAT]:
                self.assertEqual(rung(a, ladder(a, n)), n + 1, str(a)[:300])

    def test_what_lies_between_two_rungs(self):
        met = 0
        for a in LIMITS:
            for n in range(4):
                low = ladder(a, n)
                high = ladder(a, n + 1)
                for b in RISING + MIXED + [high]:
                    if compare(b, low) > 0 and compare(b, high) <= 0:
                        met += 1
                        self.assertGreaterEqual(compare(ladder(b, 1), low), 0, str((a, n, b))[:300])
        self.assertGreater(met, 1000)

    def test_no_limit(self):
        for a in RISING + MIXED:
            if not is_limit(a):
                for b in [ZERO, ONE, a, tower(20)]:
                    with self.subTest(**named(a, b)):
                        self.assert_refused(NoLimit, rung, a, b)

    def test_not_below(self):
        for a in LIMITS:
            for b in [a, a + ONE, tower(20), ((a, 1),)]:
                with self.subTest(**named(a, b)):
                    self.assert_refused(TooHigh, rung, a, b)

    def test_at_the_bounds(self):
        limit = broad(3000)[:-1]
        self.assertEqual(rung(limit, limit[:-1] + ((ONE, 2), ((), GREAT))), GREAT + 1)
        self.assertEqual(rung(tower(44), tower(43)), 2)
        self.assertEqual(rung(tower(44), broad(3000)), 0)
        self.assertEqual(rung(tower(44), tower(42)), 1)
        self.assertEqual(rung(tower(44), ((tower(42), GREAT), ((), GREAT))), 2)


class WayDown(Case):
    def test_written_out(self):
        table = [
            ("0", 3, 20, ["0"]), ("3", 9, 20, ["3", "2", "1", "0"]), ("w", 2, 20, ["w", "2", "1", "0"]),
            ("w", 0, 20, ["w", "0"]), ("w^w", 0, 20, ["w^w", "1", "0"]),
            ("w^w", 2, 5, ["w^w", "w^2", "w*2", "w+2", "w+1", "w"]), ("w^w", 2, 0, ["w^w"]),
            ("w^w", 2, 1, ["w^w", "w^2"]), ("w+1", 1, 2, ["w+1", "w", "1"]),
            ("w+1", 1, 3, ["w+1", "w", "1", "0"]), ("w+1", 1, 4, ["w+1", "w", "1", "0"]),
        ]
        for a, n, most, expected in table:
            with self.subTest(a=a, n=n, most=most):
                self.assertEqual(way_down(number(a), lambda step: n, most), [number(text) for text in expected])

    def test_twenty_steps_where_none_are_told(self):
        self.assertEqual(len(way_down(W_W, lambda step: 9)), 21)
        self.assertEqual(way_down((((), 19),), lambda step: 0)[-1], ZERO)
        self.assertEqual(way_down((((), 20),), lambda step: 0)[-1], ZERO)
        self.assertEqual(way_down((((), 21),), lambda step: 0)[-1], ONE)

    def test_the_rule_is_asked_step_by_step(self):
        asked = []

        def rule(step):
            asked.append(step)
            return step + 2

        found = way_down(number("w^2"), rule, 4)
        self.assertEqual(found, [number(text) for text in ["w^2", "w*2", "w+3", "w+2", "w+1"]])
        self.assertEqual(asked, [0, 1, 2, 3])
        self.assertEqual(way_down(W, lambda step: [3, 9, 9, 9][step]), [W] + [number(text) for text in "3210"])

    def test_each_next_one_is_the_rung_and_lesser(self):
        for a in RISING + MIXED:
            found = way_down(a, lambda step: step * step, 12)
            with self.subTest(**named(a)):
                self.assertEqual(found[0], a)
                for step, (x, y) in enumerate(zip(found, found[1:])):
                    self.assertEqual(y, ladder(x, step * step))
                    self.assertEqual(compare(y, x), -1)
                self.assertTrue(found[-1] == ZERO or len(found) == 13)

    def test_by_always_the_same_n_all_of_lesser_whole_numbers_are_met(self):
        met = 0
        for a in SMALL:
            for n in [1, 2, 3, 4]:
                found = way_down(a, lambda step: n, 60)
                last = found[-1]
                for b in SMALL:
                    if compare(b, a) < 0 and compare(b, last) >= 0 and greatest(b) < n:
                        self.assertIn(b, found, str((a, b, n)))
                        met += 1
        self.assertGreater(met, 1000)

    def test_a_list_of_ones_own(self):
        self.assert_own_list(way_down, W_W, lambda step: 2)
        self.assert_own_list(way_down, ZERO, lambda step: 2)

    def test_at_the_bounds(self):
        found = way_down(tower(44), lambda step: 1, 300)
        self.assertEqual(found, [tower(height) for height in range(44, -1, -1)] + [ZERO])
        self.assertEqual(way_down(W, lambda step: GREAT, 1), [W, (((), GREAT),)])
        self.assertEqual(len(way_down(broad(3000), lambda step: 3, 300)), 301)


class HandedIn(Case):
    def test_is_not_changed(self):
        for a in [W, number("w^(w*2)+w"), number("w^w*3")]:
            self.assert_unchanged(ladder, a, 3)
            self.assert_unchanged(rung, a, TWO)
            self.assert_unchanged(way_down, a, abs)


if __name__ == "__main__":
    unittest.main()
