import unittest

from cases import Case
from hydrahouse import bases
from hydrahouse.bases import down, fits, row, worth, written
from hydrahouse.errors import NoFit, NoNumber, Nought, TooGreat
from hydrahouse.forms import compare, greatest, is_number
from samples import MIXED, NO_WHOLES, ONE, RISING, TWO, W, ZERO, broad, named, number, tower

GREAT = 10 ** 399
LONG = 10 ** 60 - 1
NO_BASES = NO_WHOLES + [0, 1]
BASES = [2, 3, 4, 7, 10, 11, 200]
LENGTHS = list(range(130)) + [255, 256, 257, 1000, 65535, 65536, 10 ** 12 + 7, 3 ** 27, 2 ** 100 - 1, LONG - 6, LONG]


def whole_number(n):
    return (((), n),) if n > 0 else ()


def to_power(exponent, times=1):
    return ((exponent, times),)


def value(a, base):
    # what a is worth, by the words alone
    return sum([times * base ** value(exponent, base) for exponent, times in a])


def nines():
    # all of 10 ** 600 - 1 at the base 10
    return tuple([(whole_number(n), 9) for n in range(599, -1, -1)])


class Interface(Case):
    def test_arguments(self):
        expected = {
            "written": "(m, base=2)", "fits": "(a, base)", "worth": "(a, base)", "down": "(a, base)",
            "row": "(m, base=2, most=20)",
        }
        self.assert_arguments(bases, expected)


class Written(Case):
    def test_written_out(self):
        table = [
            (10, 2, "w^(w+1)+w"), (0, 2, "0"), (1, 2, "1"), (2, 2, "w"), (3, 2, "w+1"), (4, 2, "w^w"), (5, 2, "w^w+1"),
            (8, 2, "w^(w+1)"), (16, 2, "w^(w^w)"), (32, 2, "w^(w^w+1)"), (266, 2, "w^(w^(w+1))+w^(w+1)+w"),
            (0, 3, "0"), (1, 3, "1"), (2, 3, "2"), (3, 3, "w"), (4, 3, "w+1"), (6, 3, "w*2"), (8, 3, "w*2+2"),
            (9, 3, "w^2"), (26, 3, "w^2*2+w*2+2"), (27, 3, "w^w"), (100, 3, "w^(w+1)+w^2*2+1"),
            (3 ** 8 * 2, 3, "w^(w*2+2)*2"), (10, 10, "w"), (9, 10, "9"), (11, 10, "w+1"), (1234, 10, "w^3+w^2*2+w*3+4"),
            (1204, 10, "w^3+w^2*2+4"), (10 ** 10, 10, "w^w"), (7 * 10 ** 21, 10, "w^(w*2+1)*7"), (10, 11, "10"),
            (199, 200, "199"), (200, 200, "w"), (201, 200, "w+1"), (399, 200, "w+199"), (40000, 200, "w^2"),
        ]
        for m, base, expected in table:
            with self.subTest(m=m, base=base):
                self.assertEqual(written(m, base), number(expected))

    def test_by_the_base_2_where_none_is_told(self):
        for m in [0, 1, 2, 10, 100]:
            self.assertEqual(written(m), written(m, 2))
        self.assertEqual(written(10), number("w^(w+1)+w"))

    def test_worth_the_number_and_of_its_form(self):
        for base in BASES:
            for m in LENGTHS:
                found = written(m, base)
                self.assertTrue(is_number(found), (m, base))
                self.assertLess(greatest(found), base, (m, base))
                self.assertEqual(value(found, base), m, (m, base))

    def test_the_order_is_kept(self):
        for base in BASES:
            for m, n in zip(LENGTHS, LENGTHS[1:]):
                self.assertEqual(compare(written(m, base), written(n, base)), -1, (m, n, base))

    def test_bases_far_above(self):
        for base in [LONG + 1, 10 ** 80, GREAT]:
            for m in [0, 1, 5, LONG]:
                self.assertEqual(written(m, base), whole_number(m))
        self.assertEqual(written(LONG, LONG), W)
        self.assertEqual(written(LONG - 1, LONG), whole_number(LONG - 1))
        self.assertEqual(written(LONG, LONG - 1), number("w+1"))
        self.assertEqual(written(LONG, 10 ** 30), ((ONE, 10 ** 30 - 1), ((), 10 ** 30 - 1)))

    def test_no_number(self):
        for base in [2, 10, GREAT]:
            for m in NO_WHOLES:
                with self.subTest(m=str(m)[:80], base=str(base)[:80]):
                    self.assert_refused(NoNumber, written, m, base)
        for m in [0, 1, 10, LONG]:
            for base in NO_BASES:
                with self.subTest(m=m, base=str(base)[:80]):
                    self.assert_refused(NoNumber, written, m, base)
        for m in NO_WHOLES:
            self.assert_refused(NoNumber, written, m)
            for base in NO_BASES:
                self.assert_refused(NoNumber, written, m, base)


class Fits(Case):
    def test_written_out(self):
        table = [
            ("0", 2, True), ("1", 2, True), ("2", 2, False), ("2", 3, True), ("w", 2, True), ("w+1", 2, True),
            ("w*2", 2, False), ("w*2", 3, True), ("w^2", 2, False), ("w^2", 3, True), ("w^(w+1)", 2, True),
            ("w^(w^3+1)+w", 3, False), ("w^(w^3+1)+w", 4, True), ("w^(w^3+1)+4", 4, False), ("w+9", 9, False),
            ("w+9", 10, True), ("w^9+1", 9, False), ("w^9*2", 10, True),
        ]
        for a, base, expected in table:
            with self.subTest(a=a, base=base):
                self.assertIs(fits(number(a), base), expected)

    def test_below_its_greatest_whole_number(self):
        for a in RISING + MIXED + [tower(44), broad(3000)]:
            top = max(greatest(a), 2)
            self.assertIs(fits(a, top + 1), True)
            self.assertIs(fits(a, GREAT + 1), True)
            if greatest(a) >= 2:
                self.assertIs(fits(a, top), False)
                self.assertIs(fits(a, 2), False)

    def test_just_these_are_written_so(self):
        met = 0
        for a in MIXED:
            for base in [2, 3, 4]:
                if max([value(exponent, base) for exponent, times in a], default=0) < 300:
                    met += 1
                    self.assertIs(written(value(a, base), base) == a, fits(a, base), (a, base))
        self.assertGreater(met, 300)


class Worth(Case):
    def test_written_out(self):
        table = [
            ("0", 2, 0), ("1", 2, 1), ("7", 2, 7), ("w", 2, 2), ("w", 9, 9), ("w+1", 2, 3), ("w*5+3", 10, 53),
            ("w^(w+1)+w", 2, 10), ("w^(w+1)+w", 3, 84), ("w^w", 3, 27), ("w^w", 10, 10 ** 10), ("w^(w^w)", 3, 3 ** 27),
            ("w^2*4+w*4+4", 5, 124), ("w^2*4+w*4+4", 2, 28), ("w^w+w^5", 2, 36), ("w^(w^(w+1))+w", 2, 258),
        ]
        for a, base, expected in table:
            with self.subTest(a=a, base=base):
                found = worth(number(a), base)
                self.assertEqual(found, expected)
                self.assertIs(found.__class__, int)

    def test_what_was_written(self):
        for base in BASES + [GREAT]:
            for m in LENGTHS:
                self.assertEqual(worth(written(m, base), base), m)

    def test_by_the_words(self):
        met = 0
        for a in MIXED:
            for base in [2, 3, 4, 12]:
                tops = [value(exponent, base) for exponent, times in a if value(exponent, base) > 5000]
                if tops == [] and value(a, base) < 10 ** 600:
                    met += 1
                    self.assertEqual(worth(a, base), value(a, base), (a, base))
                else:
                    self.assert_refused(TooGreat, worth, a, base)
        self.assertGreater(met, 400)

    def test_just_below_10_to_600_and_at_it(self):
        half = 10 ** 300
        table = [
            # number and base just below, then a number at it or above
            (nines(), 10, to_power(whole_number(600))),
            (nines(), 10, nines()[:-1] + whole_number(10)),
            (nines(), 10, ((whole_number(599), 10),)),
            (nines(), 10, ((whole_number(599), 9), (whole_number(598), 10))),
            (((ONE, half - 1), ((), half - 1)), half, to_power(TWO)),
            (((ONE, half - 1), ((), half - 1)), half, to_power(ONE, half)),
            (((ONE, half - 1), ((), half - 1)), half, ((ONE, half - 1), ((), half))),
            (to_power(ONE, 10 ** 201 - 1), 10 ** 399, to_power(ONE, 10 ** 201)),
            (to_power(whole_number(1993)), 2, to_power(whole_number(1994))),
            (to_power(written(1993, 2)), 2, to_power(written(1994, 2))),
        ]
        for below, base, at in table:
            with self.subTest(base=str(base)[:30], at=str(at)[:60]):
                self.assertEqual(worth(below, base), value(below, base))
                self.assertLess(value(below, base), 10 ** 600)
                self.assertGreaterEqual(value(at, base), 10 ** 600)
                self.assert_refused(TooGreat, worth, at, base)
        self.assertEqual(worth(nines(), 10), 10 ** 600 - 1)
        self.assertEqual(worth(((ONE, half - 1), ((), half - 1)), half), 10 ** 600 - 1)
        self.assertEqual(value(nines()[:-1] + whole_number(10), 10), 10 ** 600)

    def test_far_too_great(self):
        for a in [tower(5), tower(44), to_power(whole_number(GREAT)), to_power(to_power(whole_number(GREAT))),
                  to_power(whole_number(300), GREAT), to_power(nines()), to_power(to_power(nines())) + ONE, broad(3000)]:
            for base in [10, GREAT]:
                self.assert_refused(TooGreat, worth, a, base)
        for base in [2, 3]:
            self.assert_refused(TooGreat, worth, tower(44), base)
            self.assert_refused(TooGreat, worth, broad(3000), base)

    def test_many_parts(self):
        self.assertEqual(worth(broad(1900), 2), 3 * (2 ** 1900 - 1))
        self.assertEqual(worth(broad(500), 10), int("3" * 500))
        self.assertEqual(worth(whole_number(GREAT), 2), GREAT)


class Down(Case):
    def test_written_out(self):
        table = [
            ("1", 2, "0"), ("2", 3, "1"), ("9", 10, "8"), ("w", 2, "1"), ("w", 3, "2"), ("w", 10, "9"), ("w+1", 2, "w"),
            ("w*2", 3, "w+2"), ("w^2", 3, "w*2+2"), ("w^w", 2, "w+1"), ("w^w", 3, "w^2*2+w*2+2"),
            ("w^w*2", 3, "w^w+w^2*2+w*2+2"), ("w^(w+1)", 2, "w^w+w+1"), ("w^(w+1)+w", 2, "w^(w+1)+1"),
            ("w^(w+1)+w", 3, "w^(w+1)+2"), ("w^w+w*2", 4, "w^w+w+3"), ("w^(w+1)+w^2", 3, "w^(w+1)+w*2+2"),
            ("w^(w+1)", 3, "w^w*2+w^2*2+w*2+2"), ("w^(w^w)+4", 5, "w^(w^w)+3"), ("w^(w^w)", 2, "w^(w+1)+w^w+w+1"),
        ]
        for a, base, expected in table:
            with self.subTest(a=a, base=base):
                self.assertEqual(down(number(a), base), number(expected))

    def test_what_writes_one_less(self):
        for base in BASES:
            for m in LENGTHS[1:]:
                if m % base != 0 or value(written(m, base)[-1][0], base) <= 200:
                    self.assertEqual(down(written(m, base), base), written(m - 1, base), (m, base))

    def test_fits_again_and_is_lesser(self):
        met = 0
        for a in MIXED[1:]:
            for base in [4, 5, 6, 12]:
                if value(a[-1][0], base) <= 200:
                    met += 1
                    found = down(a, base)
                    self.assertTrue(is_number(found))
                    self.assertIs(fits(found, base), True)
                    self.assertEqual(compare(found, a), -1)
        self.assertGreater(met, 300)

    def test_nought(self):
        for base in [2, 3, GREAT]:
            self.assert_refused(Nought, down, ZERO, base)

    def test_no_fit(self):
        table = [
            ("2", 2), ("3", 2), ("w+2", 2), ("w*2", 2), ("w^2", 2), ("w^3+1", 3), ("w^(w^3)+w+1", 3), ("w*7+1", 7),
            ("w*7+1", 6), ("9", 9), ("w^(w*4+1)", 4),
            # where one down would be too great as well
            ("w^201", 201), ("w^201", 2), ("w^(w^(w^5))", 5), ("w^(w^(w^5))*2", 2), ("w^(w^w)*9", 9),
        ]
        for a, base in table:
            with self.subTest(a=a, base=base):
                self.assert_refused(NoFit, down, number(a), base)
                self.assertIs(fits(number(a), base), False)
        self.assert_refused(NoFit, down, whole_number(GREAT), GREAT)
        self.assert_refused(NoFit, down, broad(3000), 2)

    def test_an_exponent_worth_200_and_201(self):
        for base in [2, 3, 10, 14, 15, 199, 200, 201, 202, 203]:
            at = written(200, base)
            above = written(201, base)
            for ahead in [(), to_power(tower(3)), to_power(above)]:
                with self.subTest(base=base, **named(ahead)):
                    found = down(ahead + to_power(at), base)
                    expected = ahead + tuple([(written(j, base), base - 1) for j in range(199, -1, -1)])
                    self.assertEqual(found, expected)
                    if ahead != to_power(above):
                        self.assert_refused(TooGreat, down, ahead + to_power(above), base)
        self.assertEqual(value(down(to_power(whole_number(200)), 201), 201), 201 ** 200 - 1)
        self.assertEqual(down(to_power(whole_number(200), 7), 201)[0], (whole_number(200), 6))
        self.assert_refused(TooGreat, down, to_power(whole_number(201), 7), 202)

    def test_far_too_great(self):
        for a in [tower(5), tower(44), to_power(tower(43)) + tower(5)]:
            for base in [2, 3, GREAT]:
                self.assert_refused(TooGreat, down, a, base)
        self.assert_refused(TooGreat, down, to_power(whole_number(GREAT - 1)), GREAT)
        self.assert_refused(TooGreat, down, to_power(W), 201)
        self.assertEqual(len(down(to_power(W), 200)), 200)

    def test_what_stands_ahead_may_be_great(self):
        self.assertEqual(down(tower(44) + ONE, 2), tower(44))
        self.assertEqual(down(to_power(tower(43)) + W, 2), to_power(tower(43)) + ONE)
        self.assertEqual(down(broad(3000), 3000), broad(3000)[:-1] + (((), 2),))
        self.assertEqual(down(W, GREAT), whole_number(GREAT - 1))


class Rows(Case):
    def assert_row(self, arguments, expected):
        found = row(*arguments)
        self.assertEqual(found, [(base, number(text)) for base, text in expected])

    def test_written_out(self):
        self.assert_row((3,), [(2, "w+1"), (3, "w"), (4, "3"), (5, "2"), (6, "1"), (7, "0")])
        self.assert_row((3, 3), [(3, "w"), (4, "3"), (5, "2"), (6, "1"), (7, "0")])
        self.assert_row((4, 2, 5), [
            (2, "w^w"), (3, "w^2*2+w*2+2"), (4, "w^2*2+w*2+1"), (5, "w^2*2+w*2"), (6, "w^2*2+w+5"), (7, "w^2*2+w+4"),
        ])
        self.assert_row((10, 2, 3), [
            (2, "w^(w+1)+w"), (3, "w^(w+1)+2"), (4, "w^(w+1)+1"), (5, "w^(w+1)"),
        ])
        self.assert_row((27, 3, 1), [(3, "w^w"), (4, "w^3*3+w^2*3+w*3+3")])

    def test_ends_with_nought(self):
        for base in [2, 3, 10, GREAT]:
            self.assertEqual(row(0, base), [(base, ZERO)])
            self.assertEqual(row(1, base), [(base, ONE), (base + 1, ZERO)])
        self.assertEqual(row(7, 9), [(9 + step, whole_number(7 - step)) for step in range(8)])

    def test_ends_after_most_steps(self):
        for most in range(7):
            self.assertEqual(row(3, 2, most), row(3)[:most + 1])
        self.assertEqual(row(0, 2, 0), [(2, ZERO)])
        self.assertEqual(row(4, 2, 0), [(2, number("w^w"))])
        self.assertEqual(row(1, 5, 0), [(5, ONE)])

    def test_twenty_steps_where_none_are_told(self):
        self.assertEqual(len(row(4)), 21)
        self.assertEqual(row(20, 30)[-1], (50, ZERO))
        self.assertEqual(row(21, 30)[-1], (50, ONE))
        self.assertEqual(row(4), row(4, 2, 20))

    def test_worth_one_less_at_the_greater_base_and_falling(self):
        for m in [5, 6, 7, 9, 12, 13, 31, 34, 100, 130, 1000]:
            for base in [2, 3, 4, 10]:
                found = row(m, base, 3)
                self.assertEqual(found[0], (base, written(m, base)))
                for (low, a), (high, b) in zip(found, found[1:]):
                    self.assertEqual(high, low + 1)
                    self.assertEqual(value(b, high), value(a, high) - 1, (m, base, low))
                    self.assertEqual(compare(b, a), -1)
                    self.assertIs(fits(b, high), True)

    def test_too_great_where_a_step_is(self):
        # w to (w to w): its exponent is worth 27 at 3, and 256 at 4
        self.assertEqual(len(row(16, 2, 1)[-1][1]), 27)
        self.assertEqual(row(17, 2, 1)[-1], (3, number("w^(w^w)")))
        self.assert_refused(TooGreat, row, 17, 2, 2)
        self.assert_refused(TooGreat, row, 17)
        late = 2 ** 16 + 2
        self.assertEqual(row(late, 2, 3)[-1], (5, number("w^(w^(w^w))")))
        self.assert_refused(TooGreat, row, late, 2, 4)
        self.assertEqual(row(2 ** 16, 2, 0), [(2, number("w^(w^(w^w))"))])
        self.assert_refused(TooGreat, row, 2 ** 16, 2, 1)
        self.assert_refused(TooGreat, row, 3 ** 81 * 2, 3)

    def test_no_number(self):
        for most in [0, 20]:
            for m in NO_WHOLES:
                self.assert_refused(NoNumber, row, m, 2, most)
            for base in NO_BASES:
                for m in [0, 3, LONG, None, -1]:
                    self.assert_refused(NoNumber, row, m, base, most)
        self.assert_refused(NoNumber, row, -1)
        self.assert_refused(NoNumber, row, True)

    def test_a_list_of_ones_own(self):
        self.assert_own_list(row, 4)
        self.assert_own_list(row, 0)

    def test_at_the_bounds(self):
        found = row(LONG, 10, 300)
        self.assertEqual(len(found), 301)
        self.assertEqual(found[9][1], written(LONG - 9, 10))
        self.assertEqual(row(LONG, GREAT, 300)[-1], (GREAT + 300, whole_number(LONG - 300)))
        self.assertEqual(row(300, 301, 300)[-1], (601, ZERO))


class HandedIn(Case):
    def test_is_not_changed(self):
        for a in [W, number("w^(w+1)+w"), number("w^w*3")]:
            self.assert_unchanged(fits, a, 4)
            self.assert_unchanged(worth, a, 4)
            self.assert_unchanged(down, a, 4)


if __name__ == "__main__":
    unittest.main()
