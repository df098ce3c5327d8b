import inspect
import math
import unittest

from hydrahouse import sums
from hydrahouse.errors import TooHigh
from hydrahouse.forms import compare, is_number
from hydrahouse.sums import common, merged, minus, plus, total
from samples import FIVE, ONE, RISING, TWO, W, W_W, ZERO, broad, named, tower

W_1 = ((ONE, 1), ((), 1))
SQUARE = ((TWO, 1),)


def some_times(a, n):
    found = ()
    for step in range(n):
        found = plus(found, a)
    return found


class Interface(unittest.TestCase):
    def test_arguments(self):
        expected = {
            "plus": "(a, b)", "total": "(some)", "minus": "(a, b)", "merged": "(a, b)", "common": "(a, b)",
        }
        for name, arguments in expected.items():
            with self.subTest(name=name):
                self.assertEqual(str(inspect.signature(getattr(sums, name))), arguments)


class Plus(unittest.TestCase):
    def test_written_out(self):
        table = [
            # nought at either hand
            (ZERO, ZERO, ZERO), (ZERO, W_1, W_1), (W_1, ZERO, W_1), (ZERO, FIVE, FIVE), (FIVE, ZERO, FIVE),
            # whole numbers
            (ONE, ONE, TWO), (TWO, FIVE, (((), 7),)), ((((), 10 ** 399),), ONE, (((), 10 ** 399 + 1),)),
            # gone
            (ONE, W, W), (FIVE, W_1, W_1), (W_1, SQUARE, SQUARE), (((TWO, 3), (ONE, 2), ((), 1)), W_W, W_W),
            # all stay
            (W, ONE, W_1), (SQUARE, W_1, ((TWO, 1), (ONE, 1), ((), 1))), (W_W, FIVE, ((W, 1), ((), 5))),
            # times added, with what stands behind on either side
            (W, W, ((ONE, 2),)), (W_1, W, ((ONE, 2),)), (W, W_1, ((ONE, 2), ((), 1))),
            (W_1, W_1, ((ONE, 2), ((), 1))), (((ONE, 3), ((), 4)), ((ONE, 5), ((), 6)), ((ONE, 8), ((), 6))),
            # some stay, one is added to, some are gone
            (((W, 2), (TWO, 3), (ONE, 4), ((), 5)), ((TWO, 6), ((), 7)), ((W, 2), (TWO, 9), ((), 7))),
            # some stay, some are gone, none is added to
            (((W, 2), (ONE, 4), ((), 5)), ((TWO, 6), ((), 7)), ((W, 2), (TWO, 6), ((), 7))),
        ]
        for a, b, expected in table:
            with self.subTest(**named(a, b)):
                self.assertEqual(plus(a, b), expected)

    def test_is_a_number(self):
        for a in RISING:
            for b in RISING:
                with self.subTest(**named(a, b)):
                    self.assertTrue(is_number(plus(a, b)))

    def test_put_together_in_any_way(self):
        for a in RISING:
            for b in RISING:
                for c in RISING:
                    self.assertEqual(plus(plus(a, b), c), plus(a, plus(b, c)), str((a, b, c))[:300])

    def test_order_kept_strictly_at_the_right_and_weakly_at_the_left(self):
        for low, high in zip(RISING, RISING[1:]):
            for a in RISING:
                with self.subTest(**named(low, high, a)):
                    self.assertEqual(compare(plus(a, low), plus(a, high)), -1)
                    self.assertLessEqual(compare(plus(low, a), plus(high, a)), 0)

    def test_at_the_bounds(self):
        self.assertEqual(plus(broad(3000), tower(44)), tower(44))
        self.assertEqual(plus(tower(44), broad(3000)), tower(44) + broad(3000))
        self.assertEqual(plus(broad(3000), broad(3000))[0], ((((), 2999),), 6))


class Total(unittest.TestCase):
    def test_of_none_one_and_many(self):
        self.assertEqual(total([]), ZERO)
        for a in RISING:
            self.assertEqual(total([a]), a)
        self.assertEqual(total([ZERO, ZERO]), ZERO)
        self.assertEqual(total([ONE, W]), W)
        self.assertEqual(total([W, ONE]), W_1)
        self.assertEqual(total([ONE, W, FIVE, W_1, ZERO, TWO]), ((ONE, 2), ((), 3)))
        self.assertEqual(total([SQUARE, W, ONE]), ((TWO, 1), (ONE, 1), ((), 1)))
        self.assertEqual(total([ONE, W, SQUARE]), SQUARE)
        self.assertEqual(total([ONE] * 300), (((), 300),))

    def test_falling_numbers_all_stay(self):
        falling = [((exponent, 1),) for exponent in reversed(RISING)]
        self.assertEqual(total(falling), tuple([a[0] for a in falling]))

    def test_the_list_is_not_changed(self):
        some = [W, ONE, ZERO, SQUARE, TWO]
        self.assertEqual(total(some), ((TWO, 1), ((), 2)))
        self.assertEqual(some, [W, ONE, ZERO, SQUARE, TWO])


class Minus(unittest.TestCase):
    def test_written_out(self):
        long = ((W, 2), (TWO, 3), (ONE, 4), ((), 5))
        table = [
            # the same
            (ZERO, ZERO, ZERO), (FIVE, FIVE, ZERO), (long, long, ZERO),
            # nought taken away
            (FIVE, ZERO, FIVE), (long, ZERO, long),
            # whole numbers
            (FIVE, TWO, (((), 3),)), ((((), 10 ** 399),), ONE, (((), 10 ** 399 - 1),)),
            # b has no more parts
            (W_1, W, ONE), (long, long[:1], long[1:]), (long, long[:3], FIVE),
            # lesser times, at the first place, between, and at the last one
            (((ONE, 3), ((), 1)), W_1, ((ONE, 2), ((), 1))), (long, ((W, 1), (TWO, 9)), ((W, 1),) + long[1:]),
            (long, long[:1] + ((TWO, 1), (ONE, 9), ((), 9)), ((TWO, 2), (ONE, 4), ((), 5))),
            (long, long[:3] + (((), 2),), (((), 3),)),
            # a lesser exponent, at the first place and behind it
            (W, FIVE, W), (W_W, ((TWO, 9), ((), 1)), W_W), (long, ((TWO, 9),), long),
            (long, ((W, 2), (ONE, 9)), long[1:]), (long, long[:2] + (((), 8),), ((ONE, 4), ((), 5))),
        ]
        for a, b, expected in table:
            with self.subTest(**named(a, b)):
                self.assertEqual(minus(a, b), expected)

    def test_what_was_added_is_found_again(self):
        for b in RISING:
            for x in RISING:
                with self.subTest(**named(b, x)):
                    self.assertEqual(minus(plus(b, x), b), x)

    def test_what_is_found_leads_back(self):
        for i, a in enumerate(RISING):
            for b in RISING[:i + 1]:
                with self.subTest(**named(a, b)):
                    x = minus(a, b)
                    self.assertTrue(is_number(x))
                    self.assertEqual(plus(b, x), a)

    def test_above(self):
        for i, a in enumerate(RISING):
            for b in RISING[i + 1:]:
                with self.subTest(**named(a, b)):
                    with self.assertRaises(TooHigh):
                        minus(a, b)

    def test_at_the_bounds(self):
        self.assertEqual(minus(broad(3000), broad(3000)[:-1]), (((), 3),))
        self.assertEqual(minus(tower(44) + broad(3000), tower(44)), broad(3000))
        with self.assertRaises(TooHigh):
            minus(broad(3000), tower(44))


class Merged(unittest.TestCase):
    def test_written_out(self):
        table = [
            (ZERO, ZERO, ZERO), (W_1, ZERO, W_1), (FIVE, TWO, (((), 7),)), (ONE, W, W_1), (W, W, ((ONE, 2),)),
            (W_1, W_1, ((ONE, 2), ((), 2))), (W_W, W_1, ((W, 1), (ONE, 1), ((), 1))),
            (((W, 2), (ONE, 4)), ((TWO, 6), ((), 7)), ((W, 2), (TWO, 6), (ONE, 4), ((), 7))),
            (((W, 2), (TWO, 3), ((), 5)), ((TWO, 6), (ONE, 7)), ((W, 2), (TWO, 9), (ONE, 7), ((), 5))),
        ]
        for a, b, expected in table:
            with self.subTest(**named(a, b)):
                self.assertEqual(merged(a, b), expected)
                self.assertEqual(merged(b, a), expected)

    def test_holds_the_parts_of_both(self):
        for a in RISING:
            for b in RISING:
                with self.subTest(**named(a, b)):
                    times = dict(a)
                    for exponent, many in b:
                        times[exponent] = times.get(exponent, 0) + many
                    found = merged(a, b)
                    self.assertTrue(is_number(found))
                    self.assertEqual(dict(found), times)
                    self.assertEqual(found, merged(b, a))

    def test_at_the_bounds(self):
        found = merged(broad(3000), tower(44) + broad(3000)[::2])
        self.assertEqual(len(found), 3001)
        self.assertEqual([times for exponent, times in found[:4]], [1, 6, 3, 6])


class Common(unittest.TestCase):
    def test_written_out(self):
        behind = ((ONE, 4), ((), 5))
        table = [
            (ZERO, ZERO, (ZERO, 0, 0)), (W_1, ZERO, (W_1, 1, 0)), (ZERO, W_1, (W_1, 0, 1)),
            (FIVE, ZERO, (FIVE, 1, 0)), (ZERO, FIVE, (FIVE, 0, 1)),
            # whole numbers
            (ONE, ONE, (ONE, 1, 1)), (FIVE, FIVE, (FIVE, 1, 1)), (FIVE, TWO, (ONE, 5, 2)),
            ((((), 12),), (((), 18),), ((((), 6),), 2, 3)), ((((), 18),), (((), 12),), ((((), 6),), 3, 2)),
            ((((), 4),), (((), 12),), ((((), 4),), 1, 3)),
            # one number so many times
            (W, ((ONE, 3),), (W, 1, 3)), (((ONE, 6),), ((ONE, 4),), (((ONE, 2),), 3, 2)),
            (((W, 6),) + behind, ((W, 9),) + behind, (((W, 3),) + behind, 2, 3)),
            (((W, 2),) + behind, ((W, 9),) + behind, (((W, 1),) + behind, 2, 9)),
            # another first exponent
            (ONE, W, None), (W, ONE, None), (W, SQUARE, None), (W_W, ((TWO, 1),), None),
            # unlike parts behind the first one
            (W, W_1, None), (W_1, W, None), (W_1, ((ONE, 1), ((), 2)), None), (((W, 6),) + behind, ((W, 6),), None),
            (((W, 6),) + behind, ((W, 6), (ONE, 4), ((), 6)), None),
        ]
        for a, b, expected in table:
            with self.subTest(**named(a, b)):
                self.assertEqual(common(a, b), expected)

    def test_told_just_where_they_change_places(self):
        for a in RISING:
            for b in RISING:
                with self.subTest(**named(a, b)):
                    self.assertEqual(common(a, b) is not None, plus(a, b) == plus(b, a))

    def test_the_greatest_of_all_that_serve(self):
        for g in RISING[1:4] + RISING[5:]:
            for m in range(1, 8):
                for n in range(1, 8):
                    a = some_times(g, m)
                    b = some_times(g, n)
                    with self.subTest(m=m, n=n, **named(g)):
                        found, many, more = common(a, b)
                        self.assertTrue(is_number(found))
                        if many < 100 and more < 100:
                            self.assertEqual(some_times(found, many), a)
                            self.assertEqual(some_times(found, more), b)
                        self.assertEqual(math.gcd(many, more), 1)
                        self.assertGreaterEqual(compare(found, g), 0)

    def test_very_great_times(self):
        great = 10 ** 398
        self.assertEqual(
            common(((ONE, 6 * great), ((), 7)), ((ONE, 9 * great), ((), 7))),
            (((ONE, 3 * great), ((), 7)), 2, 3),
        )
        self.assertEqual(common((((), great),), (((), great + 1),)), (ONE, great, great + 1))
        self.assertEqual(common((((), great),), (((), great),)), ((((), great),), 1, 1))

    def test_at_the_bounds(self):
        self.assertEqual(common(broad(3000), broad(3000)), (broad(3000), 1, 1))
        self.assertIsNone(common(broad(3000), tower(44)))


if __name__ == "__main__":
    unittest.main()
