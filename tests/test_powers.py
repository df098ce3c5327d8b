import unittest

from cases import Case
from hydrahouse import powers
from hydrahouse.errors import TooGreat
from hydrahouse.forms import compare, is_limit, is_number
from hydrahouse.ladders import ladder
from hydrahouse.powers import power
from hydrahouse.products import times
from hydrahouse.sums import plus
from samples import MIXED, ONE, RISING, TWO, W, W_W, ZERO, broad, choices, named, number, tower

GREAT = 10 ** 399
LONG = "w^(w+1)*2+w^3+w*5+7"
# Numbers whose powers by one another are not refused.
BASES = [number(text) for text in [
    "0", "1", "2", "3", "7", "w", "w+1", "w+2", "w*2", "w*2+1", "w^2", "w^2+w", "w^2*3+w+5", "w^w", "w^w+w^2*4",
    "w^(w+1)+1", "w^(w^w+w)*2+w^3",
]]
EXPONENTS = [number(text) for text in [
    "0", "1", "2", "4", "w", "w+1", "w+3", "w*2", "w*3+2", "w^2", "w^2+w+1", "w^3*2+w^2", "w^w", "w^w+3",
    "w^(w+1)*2+w", "w^(w^w)+w^5",
]]


def rising(many, ahead, last):
    # so many parts, all but the last one with the times that are told ahead
    exponents = [(((), n),) for n in range(many - 1, 0, -1)]
    return tuple([(exponent, ahead) for exponent in exponents]) + (((), last),)


def power_or_none(a, b):
    try:
        return power(a, b)
    except TooGreat:
        return None


class Interface(Case):
    def test_arguments(self):
        self.assert_arguments(powers, {"power": "(a, b)"})


class Power(Case):
    def test_written_out(self):
        table = [
            # of 0 and of 1
            ("0", "0", "1"), ("0", "1", "0"), ("0", "5", "0"), ("0", "w", "0"), ("0", LONG, "0"),
            ("1", "0", "1"), ("1", "5", "1"), ("1", "w", "1"), ("1", LONG, "1"),
            # by 0 and by 1
            ("7", "0", "1"), ("w", "0", "1"), (LONG, "0", "1"), ("7", "1", "7"), ("w", "1", "w"), (LONG, "1", LONG),
            # a whole number by a whole number, by a limit, by both
            ("2", "10", "1024"), ("3", "4", "81"), ("2", "w", "w"), ("7", "w", "w"), ("2", "w*3", "w^3"),
            ("2", "w^2", "w^w"), ("2", "w^3*5", "w^(w^2*5)"), ("2", "w^w", "w^(w^w)"), ("2", "w^(w+1)", "w^(w^(w+1))"),
            ("2", "w^w+w^2*2+w*3", "w^(w^w+w*2+3)"), ("3", "w+2", "w*9"), ("2", "w^2*3+w+5", "w^(w*3+1)*32"),
            # one part
            ("w", "2", "w^2"), ("w", "w", "w^w"), ("w", "w+1", "w^(w+1)"), ("w*2", "2", "w^2*2"), ("w*2", "w", "w^w"),
            ("w^2*3", "w+4", "w^(w+8)*3"), ("w^2*3", "w^2", "w^(w^2)"), ("w^w", "w", "w^(w^2)"),
            ("w^(w+1)*5", "2", "w^(w*2+1)*5"), ("w^(w+1)*5", "w*2+3", "w^(w^2*2+w*3+1)*5"), ("w", LONG, f"w^({LONG})"),
            # many parts, by a whole number, by a limit, by both
            ("w+1", "2", "w^2+w+1"), ("w+1", "3", "w^3+w^2+w+1"), ("w*2+3", "2", "w^2*2+w*6+3"),
            ("w^2+w", "2", "w^4+w^3"), ("w^2+w", "3", "w^6+w^5"), ("w+1", "w", "w^w"), ("w*2+3", "w^2", "w^(w^2)"),
            ("w^2*7+1", "w*3", "w^(w*3)"), ("w^(w+1)+1", "w", "w^(w^2)"), ("w+1", "w+1", "w^(w+1)+w^w"),
            ("w*2+3", "w+2", "w^(w+2)*2+w^(w+1)*6+w^w*3"), ("w^2+w", "w^w+w+2", "w^(w^w+w+4)+w^(w^w+w+3)"),
            (LONG, "2", "w^(w*2+1)*2+w^(w+4)+w^(w+2)*5+w^(w+1)*14+w^3+w*5+7"),
        ]
        for a, b, expected in table:
            with self.subTest(a=a, b=b):
                self.assertEqual(power(number(a), number(b)), number(expected))

    def test_by_whole_numbers(self):
        for a in BASES + [number(LONG)]:
            taken = ONE
            for n in range(25):
                with self.subTest(n=n, **named(a)):
                    self.assertEqual(power(a, (((), n),) if n else ZERO), taken)
                taken = times(taken, a)

    def test_is_a_number(self):
        for a in MIXED:
            for b in MIXED:
                self.assertTrue(is_number(power(a, b)), str((a, b)))

    def test_over_a_sum_of_exponents(self):
        for a in BASES:
            for b in EXPONENTS:
                for c in EXPONENTS:
                    self.assertEqual(power(a, plus(b, c)), times(power(a, b), power(a, c)), str((a, b, c)))

    def test_of_a_power(self):
        reckoned = 0
        for a in BASES:
            for b in EXPONENTS:
                for c in EXPONENTS:
                    first = power_or_none(power(a, b), c)
                    second = power_or_none(a, times(b, c))
                    if first is not None and second is not None:
                        self.assertEqual(first, second, str((a, b, c)))
                        reckoned += 1
        self.assertGreater(reckoned, len(BASES) * len(EXPONENTS) * len(EXPONENTS) * 9 // 10)

    def test_does_not_spread_over_a_product(self):
        self.assertEqual(power(times(W, TWO), TWO), ((TWO, 2),))
        self.assertNotEqual(power(times(W, TWO), TWO), times(power(W, TWO), power(TWO, TWO)))

    def test_order_kept_strictly_at_the_right_and_weakly_at_the_left(self):
        for a in BASES[2:]:
            for low, high in zip(EXPONENTS, EXPONENTS[1:]):
                with self.subTest(**named(a, low, high)):
                    self.assertEqual(compare(power(a, low), power(a, high)), -1)
        for low, high in zip(BASES[1:], BASES[2:]):
            for b in EXPONENTS:
                with self.subTest(**named(low, high, b)):
                    self.assertLessEqual(compare(power(low, b), power(high, b)), 0)

    def test_the_least_above_all_powers_by_lesser_numbers(self):
        for b in [b for b in EXPONENTS if is_limit(b)]:
            for a in BASES[2:]:
                found = power(a, b)
                rungs = [power(a, ladder(b, n)) for n in range(25)]
                with self.subTest(**named(a, b)):
                    self.assertTrue(all(compare(x, found) < 0 for x in rungs))
                    # what is below it, with lesser whole numbers than 24, is passed by that rung
                    for x in BASES + EXPONENTS:
                        if compare(x, found) < 0:
                            self.assertLess(compare(x, rungs[-1]), 0)


class Refused(Case):
    def test_whole_part_of_24_and_25(self):
        for a in ["2", "7", "w+1", "w^2+w", "w*2+3", LONG]:
            for b in ["{}", "w+{}", "w^w*2+w+{}"]:
                with self.subTest(a=a, b=b):
                    self.assertTrue(is_number(power(number(a), number(b.format(24)))))
                    self.assert_refused(TooGreat, power, number(a), number(b.format(25)))
                    self.assert_refused(TooGreat, power, number(a), number(b.format(GREAT)))

    def test_24_and_25_own_parts(self):
        for b in [ONE, TWO, W, number("w^w+24"), number("24")]:
            for last in [1, 7]:
                with self.subTest(last=last, **named(b)):
                    self.assertTrue(is_number(power(rising(24, 2, last), b)))
                    self.assert_refused(TooGreat, power, rising(25, 2, last), b)
                    self.assertTrue(is_number(power(rising(25, 2, last)[:-1], b)))
                    self.assert_refused(TooGreat, power, rising(26, 2, last)[:-1], b)
        self.assert_refused(TooGreat, power, broad(3000), ONE)

    def test_parts_in_exponents_are_not_its_own(self):
        a = ((broad(30), 1), (broad(29), 1))
        self.assertTrue(is_number(power(a, W)))
        self.assertTrue(is_number(power(a, number("w+24"))))

    def test_times_of_60_and_61_figures(self):
        for b in [ONE, TWO, W, number("w^w+24"), number("24")]:
            for exponents in [[ZERO], [ONE, ZERO], [W_W, ONE], [W, TWO, ONE]]:
                for place in range(len(exponents)):
                    parts = [(exponent, 1) for exponent in exponents]
                    parts[place] = (exponents[place], 10 ** 60 - 1)
                    with self.subTest(place=place, **named(b, exponents)):
                        self.assertTrue(is_number(power(tuple(parts), b)))
                        for n in [10 ** 60, GREAT]:
                            parts[place] = (exponents[place], n)
                            self.assert_refused(TooGreat, power, tuple(parts), b)

    def test_figures_in_exponents_are_not_its_own(self):
        a = (((((), GREAT),), 1), ((), 1))
        self.assertEqual(power(a, TWO), (((((), 2 * GREAT),), 1), ((((), GREAT),), 1), ((), 1)))

    def test_figures_of_the_whole_part_alone_count_at_the_right(self):
        b = ((W, GREAT), (ONE, GREAT))
        self.assertEqual(power(TWO, b), ((((W, GREAT), ((), GREAT)), 1),))
        self.assertEqual(power(number("w+1"), b), ((b, 1),))

    def test_of_60_figures_by_24(self):
        n = 10 ** 60 - 1
        self.assertEqual(power((((), n),), number("24")), (((), n ** 24),))

    def test_one_part_is_never_refused(self):
        self.assertEqual(power(W, (((), 25),)), (((((), 25),), 1),))
        self.assertEqual(power(((ONE, GREAT),), (((), GREAT),)), (((((), GREAT),), GREAT),))
        self.assertEqual(power(((ONE, GREAT),), ((ONE, GREAT),)), ((((ONE, GREAT),), 1),))
        self.assertEqual(power(((TWO, 5),), ((W, 1), ((), GREAT))), ((((W, 1), ((), 2 * GREAT)), 5),))
        self.assertEqual(power(((W, 10 ** 60),), ((ONE, 1), ((), 25))), ((((TWO, 1), (ONE, 25)), 10 ** 60),))

    def test_0_and_1_and_powers_by_0_are_never_refused(self):
        for b in [number("25"), number("w+25"), (((), GREAT),), broad(3000)]:
            self.assertEqual(power(ZERO, b), ZERO)
            self.assertEqual(power(ONE, b), ONE)
        for a in [rising(25, 1, 1), broad(3000), (((), 10 ** 60),), (((), GREAT),), ((W, GREAT), ((), 1))]:
            self.assertEqual(power(a, ZERO), ONE)


class Bounds(Case):
    def test_at_the_bounds(self):
        self.assertEqual(power(W, broad(3000)), ((broad(3000), 1),))
        self.assertEqual(power(((broad(2999), 2),), number("w+1")), ((number("w^2999") + broad(2999), 2),))
        self.assertEqual(power(TWO, broad(3000)[:-1]), ((broad(2999), 1),))
        self.assertEqual(power(number("w+1"), broad(3000)[:-1]), ((broad(3000)[:-1], 1),))
        # w to (w to x) to a power is w to (w to (x + ..)), x nested as deep as may be
        x = tower(42)
        self.assertEqual(power(tower(44), W), ((((x + ONE, 1),), 1),))
        self.assertEqual(power(tower(44), tower(44)), ((((plus(x, tower(43)), 1),), 1),))
        self.assertEqual(power(tower(44) + ONE, TWO), ((((x, 2),), 1), (((x, 1),), 1), ((), 1)))

    def test_many_parts_by_24(self):
        found = power(rising(24, 2, 3), number("24"))
        self.assertEqual(len(found), 24 + 23 * 23)
        self.assertEqual(found[0], ((((), 23 * 24),), 2))
        self.assertEqual(found[-24:], (((((), 23),), 6),) + rising(24, 2, 3)[1:])

    def test_what_is_handed_in_is_not_changed(self):
        for a in choices([ZERO, ONE, W], 2, [2]):
            for b in [ZERO, TWO, W, number("w^w+w*3+2")]:
                self.assert_unchanged(power, a, b)


if __name__ == "__main__":
    unittest.main()
