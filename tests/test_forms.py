import copy
import inspect
import unittest

from hydrahouse import forms
from hydrahouse.errors import NoNumber
from hydrahouse.forms import (
    compare, deep, endless, greatest, is_limit, is_number, parts_in_all, raised, whole, whole_part, without_whole,
)
from samples import FIVE, NO_WHOLES, ONE, RISING, TWO, W, W_W, ZERO, broad, tower


def in_one_another(makers, core, depth):
    found = core
    for step in range(depth):
        found = makers[step % len(makers)](found)
    return found


def far_within(a, part):
    exponent = ((((a, 1),), 1),)
    return ((exponent, 1), ((), part))


class Interface(unittest.TestCase):
    def test_arguments_and_defaults(self):
        expected = {
            "is_number": "(thing)", "whole": "(n)", "endless": "()", "raised": "(exponent, times=1)",
            "compare": "(a, b)", "whole_part": "(a)", "without_whole": "(a)", "is_limit": "(a)",
            "greatest": "(a)", "parts_in_all": "(a)", "deep": "(a)",
        }
        for name, arguments in expected.items():
            with self.subTest(name=name):
                self.assertEqual(str(inspect.signature(getattr(forms, name))), arguments)


class IsNumber(unittest.TestCase):
    def test_numbers(self):
        for a in RISING + [tower(44), broad(3000), (((), 10 ** 399),)]:
            with self.subTest(a=str(a)[:80]):
                self.assertIs(is_number(a), True)

    def test_things_of_other_kinds(self):
        things = [
            0, 1, -1, True, False, None, "", "w", "()", [], {}, 1.0, 1j, b"", set(), frozenset(), object(), int, len,
            [((), 1)], [[[], 1]], {(): 1}, range(0),
        ]
        for thing in things:
            with self.subTest(thing=thing):
                self.assertIs(is_number(thing), False)

    def test_times(self):
        for times in [0, -1, -10 ** 399, True, False, None, "1", 1.0, (), [1], ONE]:
            with self.subTest(times=str(times)[:80]):
                self.assertIs(is_number((((), times),)), False)
                self.assertIs(is_number(((ONE, 2), ((), times))), False)

    def test_parts(self):
        parts = [
            [(), 1], (), ((),), (1,), ((), 1, 1), ((), 1, None), (1, ()), {(): 1}, "ab", "", None, 1, True, ([], 1),
            ({}, 1), (None, 1), (0, 1), (1, 1), ("", 1), (False, 1), ([((), 1)], 1), ((1,), 1),
        ]
        for part in parts:
            with self.subTest(part=part):
                self.assertIs(is_number((part,)), False)
                self.assertIs(is_number((part, ((), 1))), False)
                self.assertIs(is_number(((W, 1), part)), False)

    def test_a_part_itself_is_none(self):
        for part in [((), 1), (ONE, 1), (W, 2)]:
            with self.subTest(part=part):
                self.assertIs(is_number(part), False)

    def test_parts_as_a_list(self):
        self.assertIs(is_number([((), 1)]), False)
        self.assertIs(is_number([(ONE, 1), ((), 1)]), False)

    def test_exponents_fall(self):
        for a in RISING:
            for b in RISING:
                falls = RISING.index(b) < RISING.index(a)
                with self.subTest(a=str(a)[:80], b=str(b)[:80]):
                    self.assertIs(is_number(((a, 1), (b, 1))), falls)
                    self.assertIs(is_number(((a, 1), (b, 2))), falls)
                    self.assertIs(is_number(((a, 2), (b, 1))), falls)

    def test_each_neighbour_counts(self):
        self.assertIs(is_number(((W, 1), (TWO, 1), (ONE, 1), ((), 1))), True)
        self.assertIs(is_number(((W, 1), (ONE, 1), (TWO, 1), ((), 1))), False)
        self.assertIs(is_number(((W, 1), (TWO, 1), ((), 1), (ONE, 1))), False)
        self.assertIs(is_number(((ONE, 1), (W, 1), (TWO, 1), ((), 1))), False)
        self.assertIs(is_number(((W, 1), (ONE, 1), (ONE, 1), ((), 1))), False)

    def test_a_fault_deep_within_an_exponent(self):
        faults = [
            (((), 0),), (((), True),), (((), None),), ([(), 1],), [((), 1)], (((), 1), ((), 1)),
            (((), 1), (ONE, 1)), (((), 1, 1),), (((),),), None, 0, "",
        ]
        for fault in faults:
            for depth in [1, 2, 10, 44]:
                first = in_one_another([lambda e: ((e, 1),)], fault, depth)
                last = in_one_another([lambda e: ((tower(48), 1), (e, 1))], fault, 1)
                with self.subTest(fault=fault, depth=depth):
                    self.assertIs(is_number(first), False)
                    self.assertIs(is_number(last), False)

    def test_things_a_hundred_deep(self):
        makers = [
            [lambda x: (x,)], [lambda x: [x]], [lambda x: {1: x}], [lambda x: (x, 1)], [lambda x: (x, x)],
            [lambda x: (x,), lambda x: [x], lambda x: {"k": x}],
            [lambda x: (x, 1), lambda x: (x,), lambda x: (x, 1), lambda x: [x]],
        ]
        for number, made in enumerate(makers):
            for core in [(), [], {}, None, 1, "w"]:
                with self.subTest(makers=number, core=core):
                    self.assertIs(is_number(in_one_another(made, core, 99)), False)
                    self.assertIs(is_number(in_one_another(made, core, 100)), False)
        part_by_part = [lambda x: (x, 1), lambda x: (x,)]
        self.assertIs(is_number(in_one_another(part_by_part, (), 90)), True)
        self.assertIs(is_number(in_one_another(part_by_part, [], 98)), False)
        self.assertIs(is_number(in_one_another(part_by_part, (), 99)), False)

    def test_nothing_handed_in_is_changed(self):
        things = [[((), 1)], {"a": [1]}, ([(), 1],), (([((), 1)], 1),)]
        before = copy.deepcopy(things)
        for thing in things:
            is_number(thing)
        self.assertEqual(things, before)


class Made(unittest.TestCase):
    def test_whole(self):
        self.assertEqual(whole(0), ())
        for n in [1, 2, 7, 10 ** 399]:
            self.assertEqual(whole(n), (((), n),))

    def test_whole_refuses_all_else(self):
        for thing in NO_WHOLES:
            with self.subTest(thing=str(thing)[:80]):
                with self.assertRaises(NoNumber):
                    whole(thing)

    def test_endless(self):
        self.assertEqual(endless(), (((((), 1),), 1),))

    def test_raised(self):
        for exponent in RISING:
            with self.subTest(exponent=str(exponent)[:80]):
                self.assertEqual(raised(exponent), ((exponent, 1),))
                self.assertEqual(raised(exponent, 0), ())
                self.assertEqual(raised(exponent, 1), ((exponent, 1),))
                self.assertEqual(raised(exponent, times=10 ** 399), ((exponent, 10 ** 399),))

    def test_raised_refuses_all_else(self):
        for exponent in [ZERO, ONE, W_W]:
            for thing in NO_WHOLES:
                with self.subTest(exponent=exponent, thing=str(thing)[:80]):
                    with self.assertRaises(NoNumber):
                        raised(exponent, thing)


class Compare(unittest.TestCase):
    def test_either_way_round(self):
        for i, a in enumerate(RISING):
            for j, b in enumerate(RISING):
                expected = -1 if i < j else 1 if i > j else 0
                with self.subTest(a=str(a)[:80], b=str(b)[:80]):
                    answer = compare(a, b)
                    self.assertEqual(answer, expected)
                    self.assertIs(type(answer), int)

    def test_deep_within_exponents(self):
        for i, a in enumerate(RISING):
            for j, b in enumerate(RISING):
                expected = -1 if i < j else 1 if i > j else 0
                with self.subTest(a=str(a)[:80], b=str(b)[:80]):
                    # the whole part behind is the greater one where the exponent is the lesser one
                    first = far_within(a, 1 + j)
                    second = far_within(b, 1 + i)
                    self.assertEqual(compare(first, second), expected)

    def test_the_first_place_settles(self):
        # an exponent ahead of times, and both ahead of all that stands behind
        self.assertEqual(compare(((TWO, 1),), ((ONE, 9), ((), 9))), 1)
        self.assertEqual(compare(((TWO, 1), ((), 1)), ((TWO, 2),)), -1)
        self.assertEqual(compare(((TWO, 2), ((), 1)), ((TWO, 1), (ONE, 9))), 1)
        self.assertEqual(compare(((TWO, 1), (ONE, 1)), ((TWO, 1), ((), 9))), 1)

    def test_the_same_made_twice(self):
        self.assertEqual(compare(tower(44), tower(44)), 0)
        self.assertEqual(compare(tower(43), tower(44)), -1)
        self.assertEqual(compare(tower(44), tower(43)), 1)
        self.assertEqual(compare(broad(3000), broad(3000)), 0)
        self.assertEqual(compare(broad(3000), broad(3000)[:-1]), 1)
        self.assertEqual(compare(broad(3000)[:-1], broad(3000)), -1)


class Within(unittest.TestCase):
    def test_each_function(self):
        w_plus_1 = ((ONE, 1), ((), 1))
        # number, whole part, without it, limit, greatest whole number, parts in all, how deep
        table = [
            (ZERO, 0, ZERO, False, 0, 0, 0),
            (ONE, 1, ZERO, False, 1, 1, 1),
            (FIVE, 5, ZERO, False, 5, 1, 1),
            ((((), 10 ** 399),), 10 ** 399, ZERO, False, 10 ** 399, 1, 1),
            (W, 0, W, True, 1, 2, 2),
            (((ONE, 3),), 0, ((ONE, 3),), True, 3, 2, 2),
            (w_plus_1, 1, W, False, 1, 3, 2),
            (((ONE, 2), ((), 7)), 7, ((ONE, 2),), False, 7, 3, 2),
            (((FIVE, 1), ((), 2)), 2, ((FIVE, 1),), False, 5, 3, 2),
            (((FIVE, 1), (TWO, 3)), 0, ((FIVE, 1), (TWO, 3)), True, 5, 4, 2),
            (W_W, 0, W_W, True, 1, 3, 3),
            (((((ONE, 1), ((), 9)), 4), (W, 2), ((), 8)), 8, ((((ONE, 1), ((), 9)), 4), (W, 2)), False, 9, 8, 3),
            (((((ONE, 11),), 4), ((), 8)), 8, ((((ONE, 11),), 4),), False, 11, 4, 3),
            (((W_W, 1), (ONE, 6)), 0, ((W_W, 1), (ONE, 6)), True, 6, 6, 4),
            (((W, 2), (FIVE, 1)), 0, ((W, 2), (FIVE, 1)), True, 5, 5, 3),
        ]
        for a, part, without, limit, most, parts, depth in table:
            with self.subTest(a=str(a)[:80]):
                self.assertEqual(whole_part(a), part)
                self.assertEqual(without_whole(a), without)
                self.assertIs(is_limit(a), limit)
                self.assertEqual(greatest(a), most)
                self.assertEqual(parts_in_all(a), parts)
                self.assertEqual(deep(a), depth)

    def test_at_the_bounds(self):
        self.assertEqual(deep(tower(44)), 45)
        self.assertEqual(parts_in_all(tower(44)), 45)
        self.assertEqual(parts_in_all(broad(3000)), 5999)
        self.assertEqual(greatest(broad(3000)), 2999)
        self.assertEqual(whole_part(broad(3000)), 3)
        self.assertEqual(without_whole(broad(3000)), broad(3000)[:-1])


if __name__ == "__main__":
    unittest.main()
