import unittest

from cases import Case
from hydrahouse import runs
from hydrahouse.errors import NoFall
from hydrahouse.forms import compare, is_number
from hydrahouse.rows import Add, Copy, Less, Set, Times, While
from hydrahouse.runs import trace, weight
from programs import built, some_programs, trace_by_the_words, weight_by_the_words
from samples import ONE, TWO, W, W_W, ZERO, broad, number, tower

GREAT = 10 ** 399
DOWN = [Less("a")]


def countdown():
    return While("a", [(ZERO, "a")], [Less("a")])


def wrapped(make, rows, many):
    for step in range(many):
        rows = [make(rows)]
    return rows


class Interface(Case):
    def test_arguments(self):
        self.assert_arguments(runs, {"weight": "(rows)", "trace": "(rows, boxes, most=50)"})


class Weight(Case):
    def test_plain_rows(self):
        plain = [Set("a", 9), Copy("a", "b"), Add("a", "b"), Less("a")]
        self.assertEqual(weight([]), ZERO)
        for row in plain:
            self.assertEqual(weight([row]), ONE)
        self.assertEqual(weight(plain), number("4"))
        self.assertEqual(weight(plain * 75), number("300"))

    def test_times(self):
        table = [
            ([Times("a", [])], "w"), ([Times("a", DOWN)], "w"), ([Times("a", DOWN * 9)], "w"),
            ([Times("a", [Times("a", [])])], "w^2"), ([Times("a", [Times("a", []), Set("a", 2)])], "w^2"),
            # from the last one to the first
            ([Set("a", 2), Times("a", [])], "w+1"), ([Times("a", []), Set("a", 2)], "w"),
            ([Times("a", []), Times("a", DOWN)], "w*2"), ([Times("a", []), Times("a", [Times("a", [])])], "w^2+w"),
            ([Times("a", [Times("a", [])]), Times("a", [])], "w^2"),
            ([Set("a", 1), Times("a", []), Times("a", [Times("a", [])]), Set("a", 1)], "w^2+w+1"),
        ]
        for rows, expected in table:
            with self.subTest(expected=expected):
                self.assertEqual(weight(rows), number(expected))

    def test_while(self):
        loop = [Times("a", [])]
        table = [
            # without marks, E is 0
            ([While("a", [], [])], "3"), ([While("a", [], DOWN * 4)], "7"), ([While("a", [], loop)], "w+3"),
            ([While("a", [], DOWN + loop)], "w+4"), ([While("a", [], loop + DOWN)], "w+3"),
            # with one mark
            ([While("a", [(ZERO, "a")], [])], "w+1"), ([While("a", [(ZERO, "b")], DOWN)], "w+1"),
            ([While("a", [(ONE, "a")], DOWN)], "w^2+1"), ([While("a", [(W, "a")], DOWN)], "w^(w+1)+1"),
            ([While("a", [(ZERO, "a")], loop)], "w^2+1"), ([While("a", [(TWO, "a")], loop)], "w^4+1"),
            ([While("a", [(W, "a")], loop)], "w^(w+1)+1"),
            # with several, the greatest exponent counts, wherever it stands
            ([While("a", [(ZERO, "a"), (ZERO, "a")], DOWN)], "w+1"),
            ([While("a", [(TWO, "a"), (ZERO, "b")], DOWN)], "w^3+1"),
            ([While("a", [(ZERO, "b"), (TWO, "a"), (ONE, "a")], DOWN)], "w^3+1"),
            ([While("a", [(number("7"), "b"), (W_W, "c"), (W, "b")], DOWN)], "w^(w^w+1)+1"),
            # one in the other, and one behind the other
            ([While("a", [(ZERO, "a")], [While("a", [(ZERO, "a")], [])])], "w^2+1"),
            ([While("a", [], [While("a", [(ZERO, "a")], [])])], "w+4"),
            ([While("a", [(W, "a")], []), While("a", [(ZERO, "a")], [])], "w^(w+1)+1"),
            ([While("a", [(ZERO, "a")], []), While("a", [(W, "a")], [])], "w^(w+1)+w+1"),
        ]
        for rows, expected in table:
            with self.subTest(expected=expected):
                self.assertEqual(weight(rows), number(expected))

    def test_by_the_words(self):
        for things, boxes in some_programs(400):
            found = weight(built(things))
            self.assertEqual(found, weight_by_the_words(things), things)
            self.assertTrue(is_number(found))

    def test_far_within_one_another(self):
        for many in [20, 24]:
            rows = wrapped(lambda rows: Times("a", rows), DOWN, many)
            self.assertEqual(weight(rows), (((((), many),), 1),))
            rows = wrapped(lambda rows: While("a", [(W, "a")], rows), DOWN, many)
            exponent = ((ONE, many), ((), 1))
            self.assertEqual(weight(rows), ((exponent, 1), ((), 1)))

    def test_the_same_row_again_and_again_far_within(self):
        rows = DOWN * 300
        for step in range(20):
            rows = [Times("a", rows)] * 300
        self.assertEqual(weight(rows), (((((), 20),), 300),))

    def test_at_the_bounds(self):
        marks = [((((), n),), "a") for n in range(1, 300)] + [(broad(2900), "b")]
        rows = [While("a", marks, DOWN)]
        self.assertEqual(weight(rows), ((broad(2900)[:-1] + (((), 4),), 1), ((), 1)))
        rows = [While("a", [(tower(44), "a")], DOWN)]
        self.assertEqual(weight(rows), ((tower(44) + ONE, 1), ((), 1)))

    def test_nothing_is_changed(self):
        rows = [Times("a", DOWN), countdown()]
        self.assert_unchanged(weight, rows)


class Trace(Case):
    def assert_trace(self, found, expected):
        self.assertEqual(found, [(number(text), boxes) for text, boxes in expected])

    def assert_by_the_words(self, things, boxes, most):
        expected, no_fall = trace_by_the_words(things, boxes, most)
        program = built(things)
        if no_fall:
            self.assertRaises(NoFall, trace, program, boxes, most)
            # the step that is refused is the one behind these
            most = len(expected) - 1
            self.assertRaises(NoFall, trace, program, boxes, most + 1)
        self.assertEqual(trace(program, boxes, most), expected, (things, boxes))

    def test_nothing_to_be_done(self):
        self.assertEqual(trace([], {}), [(ZERO, {})])
        self.assertEqual(trace([], {"a": 2, "b": 0}), [(ZERO, {"a": 2})])
        self.assertEqual(trace([], {}, 0), [(ZERO, {})])

    def test_rows_one_behind_the_other(self):
        program = [Set("a", 3), Copy("b", "a"), Add("b", "a"), Less("c"), Less("a"), Set("b", 0)]
        self.assert_trace(trace(program, {"c": 1, "d": 0, "e": 5}), [
            ("6", {"c": 1, "e": 5}), ("5", {"a": 3, "c": 1, "e": 5}), ("4", {"a": 3, "b": 3, "c": 1, "e": 5}),
            ("3", {"a": 3, "b": 6, "c": 1, "e": 5}), ("2", {"a": 3, "b": 6, "e": 5}), ("1", {"a": 2, "b": 6, "e": 5}),
            ("0", {"a": 2, "e": 5}),
        ])

    def test_times(self):
        self.assert_trace(trace([Set("a", 2), Times("a", [Add("b", "a")])], {}), [
            ("w+1", {}), ("w", {"a": 2}), ("5", {"a": 2}), ("4", {"a": 2}), ("3", {"a": 2, "b": 2}),
            ("2", {"a": 2, "b": 2}), ("1", {"a": 2, "b": 4}), ("0", {"a": 2, "b": 4}),
        ])

    def test_times_over_no_rounds(self):
        for boxes in [{}, {"a": 0}, {"b": 3}]:
            filled = {"b": 3} if "b" in boxes else {}
            self.assert_trace(trace([Times("a", [Set("a", 9)])], boxes), [("w", filled), ("1", filled), ("0", filled)])

    def test_times_without_rows(self):
        full = {"a": 2}
        self.assert_trace(trace([Times("a", [])], full), [
            ("w", full), ("3", full), ("2", full), ("1", full), ("0", full),
        ])

    def test_rounds_are_told_once(self):
        # what the box holds later makes no round more or less
        self.assertEqual(trace([Times("a", [Add("a", "a")])], {"a": 3})[-1], (ZERO, {"a": 24}))
        self.assertEqual(trace([Times("a", [Set("a", 0), Add("b", "c")])], {"a": 3, "c": 2})[-1], (ZERO, {"b": 6, "c": 2}))

    def test_times_in_times(self):
        program = [Times("a", [Times("b", [Add("c", "one")])])]
        found = trace(program, {"a": 2, "b": 2, "one": 1})
        full = {"a": 2, "b": 2, "one": 1}
        self.assertEqual([boxes.get("c", 0) for a, boxes in found], [0] * 5 + [1, 1, 2, 2, 2, 2, 2] + [3, 3, 4, 4, 4])
        self.assert_trace(found[:6], [
            ("w^2", full), ("w*2+2", full), ("w*2", full), ("w+7", full), ("w+6", full), ("w+5", dict(full, c=1)),
        ])
        self.assertEqual(found[-1], (ZERO, dict(full, c=4)))

    def test_while(self):
        self.assert_trace(trace([countdown()], {"a": 2}), [
            ("w+1", {"a": 2}), ("8", {"a": 2}), ("7", {"a": 1}), ("5", {"a": 1}), ("4", {}), ("0", {}),
        ])

    def test_while_over_no_rounds(self):
        for marks in [[], [(ZERO, "b")], [(W, "b"), (W, "a")]]:
            for boxes in [{"b": 4}, {"a": 0, "b": 4}]:
                found = trace([While("a", marks, [Set("b", 9)])], boxes)
                self.assertEqual([told for a, told in found], [{"b": 4}] * 2)
                self.assertEqual(found[-1][0], ZERO)

    def test_while_without_marks(self):
        self.assert_trace(trace([While("a", [], [Less("a")])], {"a": 1}), [
            ("4", {"a": 1}), ("2", {"a": 1}), ("1", {}), ("0", {}),
        ])
        self.assert_refused(NoFall, trace, [While("a", [], [Less("a")])], {"a": 2})
        self.assert_refused(NoFall, trace, [While("a", [], [])], {"a": 1})

    def test_while_with_several_marks(self):
        # w times a, and b behind it: a falls, and b may rise whereto it likes
        program = [While("a", [(ONE, "a"), (ZERO, "b")], [Less("a"), Add("b", "k")])]
        found = trace(program, {"a": 2, "k": 5})
        self.assert_trace(found, [
            ("w^2+1", {"a": 2, "k": 5}), ("w*2+3", {"a": 2, "k": 5}), ("w*2+2", {"a": 1, "k": 5}),
            ("w*2+1", {"a": 1, "b": 5, "k": 5}), ("w+23", {"a": 1, "b": 5, "k": 5}), ("w+22", {"b": 5, "k": 5}),
            ("w+21", {"b": 10, "k": 5}), ("0", {"b": 10, "k": 5}),
        ])

    def test_marks_of_the_same_exponent(self):
        marks = [(ZERO, "a"), (ONE, "c"), (ZERO, "b"), (ZERO, "a")]
        found = trace([While("a", marks, [Less("a"), Add("b", "k")])], {"a": 3, "b": 1, "k": 1})
        # twice a, and b: 7, then 6, 5; and each is weighed four times
        self.assertEqual(found[1][0], number("31"))
        self.assertEqual(found[4][0], number("27"))
        self.assertEqual(found[7][0], number("23"))
        self.assertEqual(found[-1], (ZERO, {"b": 4, "k": 1}))
        once = [(ZERO, "a"), (ONE, "c"), (ZERO, "b")]
        self.assert_refused(NoFall, trace, [While("a", once, [Less("a"), Add("b", "k")])], {"a": 3, "b": 1, "k": 1})

    def test_most_steps(self):
        program = [Set("a", 2), Times("a", [Add("b", "a")])]
        whole_run = trace(program, {})
        for most in range(10):
            self.assertEqual(trace(program, {}, most), whole_run[:most + 1])
        self.assertEqual(len(whole_run), 8)

    def test_fifty_steps_where_none_are_told(self):
        for many in [49, 50]:
            self.assertEqual(len(trace([Set("a", 1)] * many, {})), many + 1)
            self.assertEqual(trace([Set("a", 1)] * many, {})[-1], (ZERO, {"a": 1}))
        self.assertEqual(len(trace([Set("a", 1)] * 51, {})), 51)
        self.assertEqual(trace([Set("a", 1)] * 51, {})[-1], (ONE, {"a": 1}))

    def test_by_the_words(self):
        ended = 0
        refused = 0
        for things, boxes in some_programs(2500):
            expected, no_fall = trace_by_the_words(things, boxes, 40)
            refused += no_fall
            ended += expected[-1][0] == ZERO and len(expected) > 8
            self.assert_by_the_words(things, boxes, 40)
        self.assertGreater(refused, 200)
        self.assertGreater(ended, 200)

    def test_each_step_makes_the_weight_less(self):
        for things, boxes in some_programs(800):
            found = trace_by_the_words(things, boxes, 40)[0]
            told = trace(built(things), boxes, len(found) - 1)
            for (a, x), (b, y) in zip(told, told[1:]):
                self.assertTrue(is_number(b))
                self.assertEqual(compare(b, a), -1, things)

    def test_far_within_one_another(self):
        for many in [20, 24]:
            program = wrapped(lambda rows: Times("one", rows), [Add("b", "one")], many)
            found = trace(program, {"one": 1}, 300)
            self.assertEqual(found[-1], (ZERO, {"one": 1, "b": 1}))
            self.assertEqual(len(found), 3 * many + 2)
            program = wrapped(lambda rows: While("a", [(ZERO, "a")], rows), DOWN, many)
            found = trace(program, {"a": 3}, 300)
            self.assertEqual(found[-1], (ZERO, {}))

    def test_loops_of_both_kinds_far_within_one_another(self):
        for many in [19, 20, 22]:
            things = [("less", "b"), ("add", "c", "a")]
            for step in range(many):
                marks = [(ZERO, "b"), (W, "b"), (ONE, "d")]
                things = [[("times", "a", things)], [("while", "b", marks, things), ("copy", "d", "a")]][step % 2]
            for boxes in [{"a": 1, "b": 2}, {"a": 2, "b": 3, "d": 1}, {"a": 2}, {"b": 2}]:
                expected, no_fall = trace_by_the_words(things, boxes, 300)
                # Where a While is the outermost loop: without an a no round within it makes b less.
                self.assertIs(no_fall, "a" not in boxes and many % 2 == 0)
                self.assert_by_the_words(things, boxes, 300)

    def test_many_rounds(self):
        found = trace([Times("a", [Add("b", "a")])], {"a": GREAT}, 300)
        self.assertEqual(found[1][0], (((), 2 * GREAT + 1),))
        self.assertEqual(found[-1], ((((), 2 * GREAT + 1 - 299),), {"a": GREAT, "b": 149 * GREAT}))
        found = trace([countdown()], {"a": 200}, 300)
        self.assertEqual(found[-1][1], {"a": 50})

    def test_the_same_row_again_and_again_far_within(self):
        program = [Add("b", "a")] * 300
        for step in range(20):
            program = [Times("a", program)] * 300
        found = trace(program, {"a": GREAT, "b": 1}, 300)
        self.assertEqual(found[-1][1], {"a": GREAT, "b": 260 * GREAT + 1})
        for (a, x), (b, y) in zip(found, found[1:]):
            self.assertEqual(compare(b, a), -1)

    def test_many_boxes_and_marks(self):
        names = [f"box{n}" for n in range(300)]
        boxes = {name: n for n, name in enumerate(names)}
        marks = [((((), n + 1),), name) for n, name in enumerate(names)]
        loop = While("box299", marks, [Less(name) for name in names[:299]])
        found = trace([loop], boxes, 300)
        self.assertEqual(found[0][1], {name: n for n, name in enumerate(names) if n > 0})
        self.assertEqual(found[300][1], {name: n - 1 for n, name in enumerate(names[:299]) if n > 1} | {"box299": 299})
        high = [While("a", [(tower(44), "a"), (broad(2900), "a")], DOWN)]
        found = trace(high, {"a": 3})
        self.assertEqual(found[1][0], ((tower(44), 3), (broad(2900), 3), ((), 2)))
        self.assertEqual(found[-1], (ZERO, {}))


class Refused(Case):
    def test_no_fall(self):
        marks = [(ZERO, "a"), (ONE, "b")]
        table = [
            # the measure stays as it is, or rises
            ([], {"a": 1}), ([Set("c", 2)], {"a": 1}), ([Add("a", "a")], {"a": 1}), ([Set("b", 1)], {"a": 1}),
            ([Less("a"), Set("b", 1)], {"a": 2}), ([Add("b", "a")], {"a": 1, "b": 1}),
            # it falls at first
            ([Less("a"), Copy("b", "c"), Set("c", 1)], {"a": 9}), ([Less("b")], {"a": 1, "b": 2}),
        ]
        for rows, boxes in table:
            with self.subTest(boxes=boxes, many=len(rows)):
                self.assert_refused(NoFall, trace, [While("a", marks, rows)], boxes)
                self.assert_refused(NoFall, trace, [Set("z", 1), While("a", marks, rows), Set("z", 2)], boxes)

    def test_a_box_that_holds_nought_ends_it_whatever_is_measured(self):
        for rows in [[Set("a", 0)], [Set("a", 0), Set("b", 9)], [Less("a"), Add("c", "b")]]:
            found = trace([While("a", [(ZERO, "b"), (W, "c")], rows)], {"a": 1, "b": 5})
            self.assertEqual(found[-1][0], ZERO)

    def test_only_where_the_step_is_taken(self):
        program = [While("a", [(ZERO, "a")], [Set("b", 1)])]
        self.assertEqual(trace(program, {"a": 1}, 2)[-1], (number("4"), {"a": 1, "b": 1}))
        self.assert_refused(NoFall, trace, program, {"a": 1}, 3)
        self.assertEqual(trace(program, {"a": 1}, 0), [(number("w+1"), {"a": 1})])

    def test_rows_bear_nothing_behind_a_run(self):
        program = [countdown()]
        for amount in [2, 5, 1, 9]:
            found = trace(program, {"a": amount})
            self.assertEqual(found[0][0], number("w+1"))
            self.assertEqual(found[-1], (ZERO, {}))
            self.assertEqual(weight(program), number("w+1"))

    def test_rows_bear_nothing_behind_a_run_that_ended_early(self):
        program = [countdown()]
        before = trace(program, {"a": 4})
        for most in range(8):
            trace(program, {"a": 1}, most)
            self.assertEqual(trace(program, {"a": 4}), before)

    def test_the_same_rows_behind_a_refused_run(self):
        program = [Times("c", [While("a", [(ZERO, "a")], [Less("a"), Add("a", "b")])])]
        before = trace(program, {"a": 3, "c": 2})
        for boxes in [{"a": 1, "b": 1, "c": 1}, {"a": 3, "b": 9, "c": 5}]:
            self.assert_refused(NoFall, trace, program, boxes)
            self.assertEqual(boxes.get("b"), 1 if boxes["c"] == 1 else 9)
            self.assertEqual(trace(program, {"a": 3, "c": 2}), before)
            self.assertEqual(weight(program), number("w^2"))

    def test_the_same_while_twice_bears_nothing_the_second_time(self):
        row = countdown()
        found = trace([row, Set("a", 5), row], {"a": 2})
        self.assertEqual(found[-1], (ZERO, {}))
        found = trace([Set("b", 2), Times("b", [Set("a", 3), row])], {"a": 1})
        self.assertEqual(found[-1], (ZERO, {"b": 2}))
        inner = While("a", [(ZERO, "a")], DOWN)
        outer = While("b", [(ZERO, "b")], [Less("b"), Set("a", 2), inner, Set("a", 3), inner])
        self.assertEqual(trace([outer], {"b": 2})[-1], (ZERO, {}))


class HandedIn(Case):
    def test_is_not_changed(self):
        program = [Set("a", 2), Times("a", [Add("b", "a"), countdown()]), Less("c")]
        kept = list(program)
        boxes = {"a": 0, "c": 4, "z": 0}
        first = trace(program, boxes)
        self.assertEqual(program, kept)
        self.assertEqual(boxes, {"a": 0, "c": 4, "z": 0})
        self.assertEqual(trace(program, boxes), first)
        loop = [Add("c", "c"), While("a", [], [Add("a", "a")])]
        boxes = {"a": 1, "c": 2}
        self.assert_refused(NoFall, trace, loop, boxes)
        self.assertEqual(boxes, {"a": 1, "c": 2})

    def test_what_is_done_behind_changes_nothing_that_was_told(self):
        program = [Set("a", 2), Less("a")]
        boxes = {"b": 3}
        found = trace(program, boxes)
        program.clear()
        boxes["b"] = 9
        boxes["c"] = 1
        self.assertEqual(found, [(TWO, {"b": 3}), (ONE, {"a": 2, "b": 3}), (ZERO, {"a": 1, "b": 3})])

    def test_lists_and_dicts_are_the_askers_own(self):
        program = [Times("a", [Less("b")])]
        boxes = {"a": 2, "b": 3}
        self.assert_own_list(trace, program, boxes)
        kept = trace(program, boxes)
        found = trace(program, boxes)
        for step, told in enumerate(found):
            told[1]["more"] = step
            told[1].pop("a")
        self.assertEqual([told["more"] for a, told in found], list(range(len(found))))
        self.assertEqual(boxes, {"a": 2, "b": 3})
        self.assertEqual(trace(program, boxes), kept)
        found = trace([], boxes)
        found[0][1]["a"] = 7
        self.assertEqual(boxes, {"a": 2, "b": 3})

    def test_kinds(self):
        found = trace([Times("a", [Less("b")])], {"a": 2, "b": 3})
        self.assertIs(found.__class__, list)
        for told in found:
            self.assertIs(told.__class__, tuple)
            self.assertEqual(len(told), 2)
            self.assertIs(told[1].__class__, dict)


if __name__ == "__main__":
    unittest.main()
