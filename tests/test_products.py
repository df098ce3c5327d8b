import unittest

from cases import Case
from hydrahouse import products
from hydrahouse.errors import Nought
from hydrahouse.forms import compare, is_limit, is_number
from hydrahouse.ladders import ladder
from hydrahouse.products import divided, factors, times, woven
from hydrahouse.sums import merged, plus
from samples import FIVE, MIXED, ONE, RISING, TWO, W, W_W, ZERO, broad, named, number, tower

GREAT = 10 ** 399
LONG = "w^(w+1)*2+w^3+w*5+7"


def product(some):
    found = ONE
    for a in some:
        found = times(found, a)
    return found


def woven_by_the_rule(a, b):
    found = ZERO
    for e, c in a:
        for f, d in b:
            found = merged(found, ((merged(e, f), c * d),))
    return found


class Interface(Case):
    def test_arguments(self):
        expected = {"times": "(a, b)", "divided": "(a, b)", "woven": "(a, b)", "factors": "(a)"}
        self.assert_arguments(products, expected)


class Times(Case):
    def test_written_out(self):
        table = [
            ("0", "0", "0"), ("0", "5", "0"), ("5", "0", "0"), ("0", LONG, "0"), (LONG, "0", "0"),
            ("1", "1", "1"), ("2", "5", "10"),
            ("2", "w", "w"), ("w", "2", "w*2"), ("w*2", "2", "w*4"), ("w*2", "w*2", "w^2*2"),
            ("5", "w^2*3+w*2+4", "w^2*3+w*2+20"), ("5", "w^w*2+1", "w^w*2+5"),
            ("w+1", "2", "w*2+1"), ("w+1", "w", "w^2"), ("w", "w+1", "w^2+w"), ("w+1", "w+1", "w^2+w+1"),
            ("w*2+3", "w*4+5", "w^2*4+w*10+3"), ("w^2*2+w+3", "w^2*4+w+5", "w^4*4+w^3+w^2*10+w+3"),
            ("w", "w^w", "w^w"), ("w^w", "w", "w^(w+1)"), ("w^w", "w^w", "w^(w*2)"), ("w^2", "w^(w+1)", "w^(w+1)"),
            (LONG, "2", "w^(w+1)*4+w^3+w*5+7"), (LONG, "w", "w^(w+2)"),
            (LONG, "w^w*3+w^2+2", "w^(w*2)*3+w^(w+3)+w^(w+1)*4+w^3+w*5+7"),
            ("2", LONG, "w^(w+1)*2+w^3+w*5+14"), ("w", LONG, "w^(w+1)*2+w^4+w^2*5+w*7"),
        ]
        for a, b, expected in table:
            with self.subTest(a=a, b=b):
                self.assertEqual(times(number(a), number(b)), number(expected))

    def test_nought_and_one(self):
        for a in RISING + MIXED:
            self.assertEqual(times(a, ZERO), ZERO)
            self.assertEqual(times(ZERO, a), ZERO)
            self.assertEqual(times(a, ONE), a)
            self.assertEqual(times(ONE, a), a)

    def test_is_a_number(self):
        for a in MIXED:
            for b in MIXED:
                self.assertTrue(is_number(times(a, b)), str((a, b)))

    def test_added_to_itself(self):
        for a in RISING:
            added = ZERO
            for n in range(1, 6):
                added = plus(added, a)
                with self.subTest(n=n, **named(a)):
                    self.assertEqual(times(a, (((), n),)), added)

    def test_the_least_above_all_products_by_lesser_numbers(self):
        for b in [b for b in RISING if is_limit(b)]:
            for a in RISING[1:]:
                found = times(a, b)
                rungs = [times(a, ladder(b, n)) for n in [0, 1, 2, 9, 10 ** 900]]
                with self.subTest(**named(a, b)):
                    self.assertTrue(all(compare(x, found) < 0 for x in rungs))
                    for x in RISING:
                        if compare(x, found) < 0:
                            self.assertEqual(compare(x, rungs[-1]), -1)

    def test_put_together_in_any_way_and_spread_at_the_right(self):
        for a in RISING:
            for b in RISING:
                ab = times(a, b)
                for c in RISING:
                    self.assertEqual(times(ab, c), times(a, times(b, c)), str((a, b, c))[:300])
                    self.assertEqual(times(a, plus(b, c)), plus(ab, times(a, c)), str((a, b, c))[:300])

    def test_does_not_spread_at_the_left(self):
        self.assertNotEqual(times(W, plus(ONE, ONE)), times(plus(ONE, ONE), W))
        self.assertNotEqual(times(plus(W, ONE), TWO), plus(times(W, TWO), times(ONE, TWO)))

    def test_order_kept_strictly_at_the_right_and_weakly_at_the_left(self):
        for low, high in zip(RISING, RISING[1:]):
            for a in RISING:
                with self.subTest(**named(low, high, a)):
                    if a != ZERO:
                        self.assertEqual(compare(times(a, low), times(a, high)), -1)
                    self.assertLessEqual(compare(times(low, a), times(high, a)), 0)

    def test_times_of_many_figures(self):
        square = (((), GREAT * GREAT),)
        self.assertEqual(times((((), GREAT),), (((), GREAT),)), square)
        self.assertEqual(times(((W, GREAT), ((), 7)), (((), GREAT),)), ((W, GREAT * GREAT), ((), 7)))
        self.assertEqual(times(((W, GREAT), ((), 7)), ((W, GREAT),)), ((((ONE, 2),), GREAT),))

    def test_at_the_bounds(self):
        found = times(broad(3000), broad(3000))
        self.assertEqual(len(found), 2999 + 3000)
        self.assertEqual(found[0], ((((), 2999 + 2999),), 3))
        self.assertEqual(found[2999], ((((), 2999),), 9))
        self.assertEqual(found[3000:], broad(3000)[1:])
        self.assertEqual(times(broad(3000), tower(44)), tower(44))
        # w to (.. + 1), nested as deep as may be
        self.assertEqual(times(tower(44), W), ((tower(44)[0][0] + ONE, 1),))
        high = ((broad(2990), 1), ((), 1))
        found = times(high, broad(3000))
        self.assertEqual(len(found), 3001)
        self.assertEqual(found[0], ((broad(2990)[:-1] + (((), 3002),), 3)))


class Divided(Case):
    def test_written_out(self):
        table = [
            # whole numbers
            ("0", "1", "0", "0"), ("7", "1", "7", "0"), ("7", "2", "3", "1"), ("6", "2", "3", "0"),
            ("5", "7", "0", "5"),
            # by a whole number
            ("w", "2", "w", "0"), ("w*3+7", "2", "w*3+3", "1"), (LONG, "7", "w^(w+1)*2+w^3+w*5+1", "0"),
            (LONG, "8", "w^(w+1)*2+w^3+w*5", "7"),
            # no rest
            ("w^2", "w", "w", "0"), ("w*6", "w*2", "3", "0"), ("w^(w*2)", "w^w", "w^w", "0"),
            ("w^(w+3)", "w^(w+1)*2+5", "w^2", "0"), ("w^2+w", "w", "w+1", "0"), ("w^2+w+1", "w+1", "w+1", "0"),
            ("w^w", "w^5*2+3", "w^w", "0"), (LONG, LONG, "1", "0"), ("w^(w+1)*6+w^3+w*5+7", LONG, "3", "0"),
            # below the divisor
            ("0", LONG, "0", "0"), ("7", "w", "0", "7"), ("w", "w+1", "0", "w"), ("w*2", "w*2+1", "0", "w*2"),
            ("w^2*3+w*9", "w^2*4", "0", "w^2*3+w*9"), ("w^2*2", "w^2*3", "0", "w^2*2"), ("w^5", "w^w", "0", "w^5"),
            # a rest
            ("w+5", "w", "1", "5"), ("w*7", "w*2", "3", "w"), ("w*7+1", "w*2+5", "3", "w+1"),
            ("w^2+w*3+5", "w+1", "w+3", "4"), (LONG, "w", "w^(w+1)*2+w^2+5", "7"),
            (LONG, "w^2", "w^(w+1)*2+w", "w*5+7"), (LONG, "w^w*3", "w*2", "w^3+w*5+7"),
            # the first part is met without a rest, but the other parts are too much, or just enough
            ("w*3", "w+1", "2", "w"), ("w*3+1", "w+1", "3", "0"), ("w*6+4", "w*2+5", "2", "w*2+4"),
            ("w^(w+1)*6+w^3+w*5+6", LONG, "2", "w^(w+1)*2+w^3+w*5+6"), ("w^2*4+w*8", "w^2*2+w*9", "1", "w^2*2+w*8"),
            ("w^3+w^2*2", "w^2+w", "w+1", "w^2"),
        ]
        for a, b, q, r in table:
            with self.subTest(a=a, b=b):
                self.assertEqual(divided(number(a), number(b)), (number(q), number(r)))

    def test_leads_back(self):
        for a in MIXED + RISING:
            for b in MIXED[1:] + RISING[1:]:
                found = divided(a, b)
                self.assertIs(found.__class__, tuple)
                q, r = found
                self.assertTrue(is_number(q) and is_number(r), str((a, b)))
                self.assertEqual(compare(r, b), -1, str((a, b)))
                self.assertEqual(plus(times(b, q), r), a, str((a, b)))

    def test_quotient_and_rest_are_found_again(self):
        for i, b in enumerate(RISING):
            for r in RISING[:i]:
                for q in RISING:
                    self.assertEqual(divided(plus(times(b, q), r), b), (q, r), str((b, q, r))[:300])

    def test_by_nought(self):
        for a in RISING:
            with self.subTest(**named(a)):
                self.assert_refused(Nought, divided, a, ZERO)

    def test_times_of_many_figures(self):
        self.assertEqual(divided((((), GREAT + 1),), (((), 10 ** 200),)), ((((), 10 ** 199),), ONE))
        self.assertEqual(
            divided(((W, GREAT), ((), 6)), ((W, 10), ((), 7))), ((((), GREAT // 10 - 1),), ((W, 10), ((), 6))),
        )
        self.assertEqual(divided(((W, GREAT),), (((), GREAT),)), (((W, GREAT),), ZERO))

    def test_at_the_bounds(self):
        self.assertEqual(divided(broad(3000), broad(3000)), (ONE, ZERO))
        self.assertEqual(divided(broad(3000), tower(44)), (ZERO, broad(3000)))
        self.assertEqual(divided(tower(44), broad(3000)), (tower(44), ZERO))
        self.assertEqual(divided(broad(3000), W), (broad(2999), (((), 3),)))
        self.assertEqual(divided(((tower(44)[0][0] + ONE, 1), ((), 1)), tower(44)), (W, ONE))


class Woven(Case):
    def test_written_out(self):
        table = [
            ("0", "0", "0"), ("0", LONG, "0"), ("1", LONG, LONG), ("2", "3", "6"), ("2", "w", "w*2"),
            ("2", "w*3+4", "w*6+8"), ("w", "w", "w^2"), ("w+1", "w+1", "w^2+w*2+1"), ("w", "w^w", "w^(w+1)"),
            ("w*2+3", "w*4+5", "w^2*8+w*22+15"), ("w^(w+2)", "w^(w*3+5)", "w^(w*4+7)"),
            ("w^(w^2+1)", "w^(w*2)", "w^(w^2+w*2+1)"), ("w^(w+1)+w", "w^w+1", "w^(w*2+1)+w^(w+1)*2+w"),
            ("w^(w+2)*2+w^w+3", "w*5+7", "w^(w+3)*10+w^(w+2)*14+w^(w+1)*5+w^w*7+w*15+21"),
            ("w^w+w^2", "w^(w*2)+w", "w^(w*3)+w^(w*2+2)+w^(w+1)+w^3"),
        ]
        for a, b, expected in table:
            with self.subTest(a=a, b=b):
                self.assertEqual(woven(number(a), number(b)), number(expected))
                self.assertEqual(woven(number(b), number(a)), number(expected))

    def test_by_the_rule(self):
        for a in MIXED + RISING:
            for b in MIXED:
                found = woven(a, b)
                self.assertEqual(found, woven_by_the_rule(a, b), str((a, b)))
                self.assertTrue(is_number(found), str((a, b)))

    def test_is_never_below_the_product(self):
        for a in RISING:
            for b in RISING:
                with self.subTest(**named(a, b)):
                    self.assertEqual(woven(a, b), woven(b, a))
                    self.assertGreaterEqual(compare(woven(a, b), times(a, b)), 0)

    def test_put_together_in_any_way_and_spread_over_what_is_merged(self):
        some = RISING[::2]
        for a in some:
            for b in some:
                for c in some:
                    self.assertEqual(woven(woven(a, b), c), woven(a, woven(b, c)), str((a, b, c))[:300])
                    self.assertEqual(woven(a, merged(b, c)), merged(woven(a, b), woven(a, c)), str((a, b, c))[:300])

    def test_times_of_many_figures(self):
        found = woven(((W, GREAT), ((), GREAT)), ((W, GREAT), ((), 1)))
        self.assertEqual(found, ((((ONE, 2),), GREAT * GREAT), (W, GREAT * GREAT + GREAT), ((), GREAT)))

    def test_at_the_bounds(self):
        found = woven(broad(3000), broad(3000))
        self.assertEqual(len(found), 5999)
        self.assertEqual(found[0], ((((), 5998),), 9))
        self.assertEqual(found[2999], ((((), 2999),), 9 * 3000))
        self.assertEqual(found[-2:], ((ONE, 18), ((), 9)))
        twice = ((tower(43)[0][0], 2),)
        self.assertEqual(woven(tower(44), tower(44)), ((twice, 1),))


class Factors(Case):
    def test_written_out(self):
        table = [
            ("1", []), ("2", ["2"]), ("7", ["7"]), ("w", ["w"]), ("w*3", ["w", "3"]), ("w^2", ["w^2"]),
            ("w^w", ["w^w"]), ("w^(w+1)*2", ["w^(w+1)", "2"]), ("w+1", ["w+1"]), ("w+2", ["2", "w+1"]),
            ("w*3+1", ["w+1", "3"]), ("w*3+2", ["2", "w+1", "3"]), ("w^2+w", ["w", "w+1"]),
            ("w^5*2+w^2*3", ["w^2", "3", "w^3+1", "2"]), (LONG, ["7", "w+1", "5", "w^2+1", "w^(w+1)+1", "2"]),
            ("w^(w*2)+w^(w+1)*4", ["w^(w+1)", "4", "w^w+1"]), ("w^(w+3)+w^w", ["w^w", "w^3+1"]),
        ]
        for a, expected in table:
            with self.subTest(a=a):
                self.assertEqual(factors(number(a)), [number(text) for text in expected])

    def test_their_product_is_the_number(self):
        for a in MIXED[1:] + RISING[1:]:
            found = factors(a)
            self.assertEqual(product(found), a, str(a)[:300])
            self.assertTrue(all(is_number(x) and x != ONE for x in found), str(a)[:300])

    def test_of_nought(self):
        self.assert_refused(Nought, factors, ZERO)

    def test_a_list_of_ones_own(self):
        self.assert_own_list(factors, number(LONG))

    def test_at_the_bounds(self):
        found = factors(broad(3000))
        self.assertEqual(len(found), 1 + 2 * 2999)
        self.assertEqual(found[:3], [(((), 3),), number("w+1"), (((), 3),)])
        self.assertEqual(factors(tower(44)), [tower(44)])
        self.assertEqual(factors((((), GREAT),)), [(((), GREAT),)])
        high = ((tower(44)[0][0], GREAT), (W, 1))
        self.assertEqual(factors(high), [W_W, ((tower(44)[0][0], 1), ((), 1)), (((), GREAT),)])


class HandedIn(Case):
    def test_is_not_changed(self):
        for a, b in [(number(LONG), number("w*2+3")), (FIVE, number(LONG)), (W_W, W)]:
            for function in [times, divided, woven]:
                self.assert_unchanged(function, a, b)
            self.assert_unchanged(factors, a)


if __name__ == "__main__":
    unittest.main()
