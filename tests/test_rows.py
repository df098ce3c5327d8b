import inspect
import unittest

from cases import Case
from hydrahouse import rows
from hydrahouse.rows import Add, Copy, Less, Row, Set, Times, While
from hydrahouse.runs import trace, weight
from samples import ONE, W, ZERO, number


def last_boxes(program, boxes, most=50):
    return trace(program, boxes, most)[-1][1]


class Interface(Case):
    def test_arguments(self):
        expected = {
            "Set": "(box, amount)", "Copy": "(box, other)", "Add": "(box, other)", "Less": "(box)",
            "Times": "(box, rows)", "While": "(box, marks, rows)",
        }
        self.assert_arguments(rows, expected)
        self.assertTrue(inspect.isclass(Row))
        self.assertIsInstance(Row(), Row)

    def test_each_stands_straight_under_row(self):
        for name in ["Set", "Copy", "Add", "Less", "Times", "While"]:
            self.assertEqual(getattr(rows, name).__bases__, (Row,), name)

    def test_by_the_names_of_their_arguments(self):
        program = [
            Set(box="a", amount=2), Copy(box="b", other="a"), Add(box="b", other="a"), Less(box="a"),
            Times(box="b", rows=[Less(box="b")]), While(box="a", marks=[(ZERO, "a")], rows=[Less(box="a")]),
        ]
        self.assertEqual(last_boxes(program, {}), {})
        self.assertEqual(last_boxes(program[:4], {}), {"a": 1, "b": 4})


class PlainRows(Case):
    def test_written_out(self):
        great = 10 ** 399
        table = [
            (Set("a", 3), {}, {"a": 3}), (Set("a", 3), {"a": 9, "b": 2}, {"a": 3, "b": 2}), (Set("a", 0), {"a": 9}, {}),
            (Set("a", 0), {}, {}), (Set("a", great), {}, {"a": great}),
            (Copy("a", "b"), {"b": 2}, {"a": 2, "b": 2}), (Copy("a", "b"), {"a": 5}, {}),
            (Copy("a", "b"), {"a": 5, "b": 0}, {}), (Copy("a", "a"), {"a": 5}, {"a": 5}), (Copy("a", "b"), {}, {}),
            (Copy("a", "b"), {"a": 1, "b": 7, "c": 2}, {"a": 7, "b": 7, "c": 2}),
            (Add("a", "b"), {"a": 5, "b": 2}, {"a": 7, "b": 2}), (Add("a", "b"), {"b": 2}, {"a": 2, "b": 2}),
            (Add("a", "b"), {"a": 5}, {"a": 5}), (Add("a", "a"), {"a": 5}, {"a": 10}), (Add("a", "a"), {}, {}),
            (Add("a", "b"), {"a": great, "b": great}, {"a": 2 * great, "b": great}),
            (Less("a"), {"a": 5}, {"a": 4}), (Less("a"), {"a": 1}, {}), (Less("a"), {"a": 0}, {}), (Less("a"), {}, {}),
            (Less("a"), {"b": 5}, {"b": 5}), (Less("a"), {"a": great}, {"a": great - 1}),
            (Set("", 1), {"": 4}, {"": 1}), (Copy("a long name", ""), {"": 4}, {"": 4, "a long name": 4}),
        ]
        for row, boxes, expected in table:
            with self.subTest(row=row.__class__.__name__, boxes=str(boxes)[:80]):
                found = trace([row], boxes)
                filled = {box: amount for box, amount in boxes.items() if amount > 0}
                self.assertEqual(found, [(ONE, filled), (ZERO, expected)])


class WhatWasHandedIn(Case):
    def test_rows_of_a_times_as_they_were_then(self):
        inside = [Add("b", "a")]
        row = Times("a", inside)
        inside.append(Set("c", 9))
        self.assertEqual(last_boxes([row], {"a": 3}), {"a": 3, "b": 9})
        inside[0] = Times("a", [])
        self.assertEqual(weight([row]), W)
        self.assertEqual(last_boxes([row], {"a": 3}), {"a": 3, "b": 9})
        inside.clear()
        self.assertEqual(last_boxes([row], {"a": 3}), {"a": 3, "b": 9})

    def test_rows_and_marks_of_a_while_as_they_were_then(self):
        inside = [Less("a"), Add("b", "a")]
        marks = [(ZERO, "a")]
        row = While("a", marks, inside)
        before = trace([row], {"a": 3})
        marks.append((W, "b"))
        inside.append(Set("c", 9))
        self.assertEqual(trace([row], {"a": 3}), before)
        self.assertEqual(weight([row]), number("w+1"))
        marks.clear()
        inside.clear()
        self.assertEqual(trace([row], {"a": 3}), before)
        self.assertEqual(before[-1], (ZERO, {"b": 3}))

    def test_rows_further_within(self):
        innermost = [Less("a")]
        inner = [Times("a", innermost)]
        row = Times("b", inner)
        before = trace([row], {"a": 3, "b": 2})
        innermost.append(Set("a", 9))
        inner.append(Set("a", 9))
        self.assertEqual(trace([row], {"a": 3, "b": 2}), before)

    def test_the_lists_are_not_changed(self):
        inside = [Less("a"), Less("a")]
        kept = list(inside)
        marks = [(ZERO, "a"), (W, "b"), (ZERO, "a")]
        program = [Times("a", inside), While("a", marks, inside)]
        trace(program, {"a": 9})
        self.assertEqual(inside, kept)
        self.assertEqual(marks, [(ZERO, "a"), (W, "b"), (ZERO, "a")])

    def test_one_list_for_several_rows(self):
        inside = [Less("a")]
        first = Times("b", inside)
        inside.append(Less("c"))
        second = Times("b", inside)
        self.assertEqual(last_boxes([first], {"a": 5, "b": 2, "c": 5}), {"a": 3, "b": 2, "c": 5})
        self.assertEqual(last_boxes([second], {"a": 5, "b": 2, "c": 5}), {"a": 3, "b": 2, "c": 3})


if __name__ == "__main__":
    unittest.main()
