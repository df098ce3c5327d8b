import itertools
import unittest

from cases import Case
from hydrahouse import desk
from hydrahouse.bases import down, worth, written
from hydrahouse.desk import Desk
from hydrahouse.errors import (
    HydraError, NoFit, NoHead, NoLimit, NoName, NoNumber, NoRow, NoText, Nought, TooGreat, TooHigh,
)
from hydrahouse.forms import compare, is_limit
from hydrahouse.ladders import ladder, rung
from hydrahouse.products import divided
from hydrahouse.sums import common, minus
from hydrahouse.texts import shown, tree_read, tree_shown
from hydrahouse.trees import cut, heads, number_of
from samples import MIXED, NO_TEXTS, RISING, number, tower
from woods import TREES

SIXTY = "9" * 60
LONGER = "9" * 61
# Good words for each row, by the kinds of the interface; NEW is a name to be given, KEPT one to be dropped.
ROWS = {
    "let": ["NEW", "EXPR"], "tell": ["EXPR"], "drop": ["KEPT"], "hold": ["EXPR", "EXPR"], "minus": ["EXPR", "EXPR"],
    "share": ["EXPR", "EXPR"], "common": ["EXPR", "EXPR"], "rung": ["EXPR", "EXPR"], "step": ["EXPR", "N"],
    "tree": ["TREE"], "cut": ["TREE", "WAY", "N"], "write": ["N", "BASE"], "down": ["EXPR", "BASE"],
    "worth": ["EXPR", "BASE"],
}
GOOD = {"NEW": "c", "EXPR": "w", "KEPT": "a", "N": "3", "BASE": "3", "TREE": "((()()))", "WAY": "0.1"}
GOODS = {"rung": ["w^w", "w"], "minus": ["w*2", "w"]}
NO_NEW = ["w", "C", "abcdefghi", "c1", "1", "(c)", "c+1", "c\n", "\tc", "_", "()"]
NO_EXPR = [
    "w+", "w^w^w", "()", "W", "01", LONGER, "w\n", "w\tw", "-1", "w+" * 1000 + "1", "abcdefghi", "q+", "2^25+",
    "(" * 21 + "w" + ")" * 21,
]
NO_KEPT = ["q", "w", "c", "A", "1", "a+1", "(a)", "a\n", "abcdefghi", "0", "\t"]
NO_N = [
    "w", "-1", "+1", "01", "00", LONGER, "1.0", "1+1", "(1)", "a", "1\n", "\t1", "1_0", "b", "0x1", "1e2", "True",
]
NO_TREE = [
    "0", "w", "(", ")", "()()", "(()", "())", "(0)", "()\n", "((),())", "(" * 42 + ")" * 42, "(" + "()" * 600 + ")", "a", "[]",
]
NO_WAY = [
    ".", "0.", ".0", "0..1", "0,1", "00", "0.01", "-1", "0.-1", "a", "w", "()", "(0,)", LONGER, "0." + LONGER, "0.1\n", "0.1.",
    "0:1", "0.1.x",
]


def with_error(words, error):
    return [(word, error) for word in words]


# Words that are none, with the refusal of each.
BAD = {
    "NEW": with_error(NO_NEW, NoText),
    "EXPR": with_error(NO_EXPR, NoText) + with_error(["q", "w+q", "0*q", "q+2^25"], NoName)
    + with_error(["2^25", "0*2^25", "a^25*0"], TooGreat),
    "KEPT": with_error(NO_KEPT, NoName), "N": with_error(NO_N, NoText), "BASE": with_error(NO_N, NoText),
    "TREE": with_error(NO_TREE, NoText), "WAY": with_error(NO_WAY, NoText),
}


def good_words(first):
    return list(GOODS.get(first, [GOOD[kind] for kind in ROWS[first]]))


def new_desk():
    found = Desk()
    found.say("let a w+1")
    found.say("let b 5")
    return found


class DeskCase(Case):
    def assert_answers(self, table, at=None):
        at = new_desk() if at is None else at
        for row, expected in table:
            with self.subTest(row=row[:80]):
                found = at.say(row)
                self.assertEqual(found, expected)
                self.assertIs(found.__class__, str)

    def assert_kept(self, at):
        self.assertEqual([at.say("tell a"), at.say("tell b"), at.say("tell a*b")], ["w+1", "5", "w*5+1"])
        for name in ["c", "q", "abcdefgh", "ww"]:
            self.assert_refused(NoName, at.say, f"tell {name}")

    def assert_refused_rows(self, error, rows, at=None):
        at = new_desk() if at is None else at
        for row in rows:
            with self.subTest(row=str(row)[:80]):
                self.assert_refused(error, at.say, row)
        self.assert_kept(at)


class Interface(DeskCase):
    def test_arguments(self):
        self.assert_arguments(desk, {"Desk": "()"})
        self.assert_arguments(Desk, {"say": "(self, row)"})


class Answers(DeskCase):
    def test_tell(self):
        self.assert_answers([
            ("tell 0", "0"), ("tell w", "w"), ("tell 1+w", "w"), ("tell w+1", "w+1"), ("tell a", "w+1"), ("tell b", "5"),
            ("tell a+b", "w+6"), ("tell b+a", "w+1"), ("tell a^2", "w^2+w+1"), ("tell (w*2)^2", "w^2*2"), ("tell w^w", "w^w"),
            ("tell w^(w+1)*2+w^3+w*5+7", "w^(w+1)*2+w^3+w*5+7"), (f"tell {SIXTY}", SIXTY), ("tell w*0", "0"),
        ])

    def test_let(self):
        self.assert_answers([
            ("let x 1+w", "w"), ("tell x", "w"), ("let y x^x", "w^w"), ("tell y+x+a", "w^w+w*2+1"), ("let abcdefgh 0", "0"),
            ("tell abcdefgh+1", "1"), ("let ww 7", "7"), ("tell w*ww", "w*7"), ("let tell w", "w"), ("tell tell", "w"),
            ("let let tell+1", "w+1"), ("let let let", "w+1"), ("drop let", "ok"), ("tell a", "w+1"),
        ])

    def test_let_again_and_by_itself(self):
        self.assert_answers([
            ("let x 3", "3"), ("let y x", "3"), ("let x w", "w"), ("tell x", "w"), ("tell y", "3"), ("let x x+1", "w+1"),
            ("let x x+1", "w+2"), ("let x x*x", "w^2+w*2+2"), ("tell x", "w^2+w*2+2"), ("let x x", "w^2+w*2+2"), ("let x 0", "0"),
            ("tell x", "0"), ("tell y", "3"),
        ])
        at = new_desk()
        self.assert_refused(NoName, at.say, "let x x")
        self.assert_refused(NoName, at.say, "tell x")
        self.assert_kept(at)

    def test_drop(self):
        at = new_desk()
        self.assert_answers([("let x w", "w"), ("let y x+1", "w+1"), ("drop x", "ok"), ("tell y", "w+1")], at)
        self.assert_refused(NoName, at.say, "tell x")
        self.assert_refused(NoName, at.say, "drop x")
        self.assert_answers([("let x 4", "4"), ("tell x", "4"), ("drop x", "ok"), ("drop y", "ok")], at)
        self.assert_refused(NoName, at.say, "let x x+1")
        self.assert_refused(NoName, at.say, "tell y")
        self.assert_kept(at)

    def test_hold(self):
        self.assert_answers([
            ("hold 0 0", "same"), ("hold 0 1", "less"), ("hold 1 0", "more"), ("hold w 999", "more"), ("hold 999 w", "less"),
            ("hold 1+w w", "same"), ("hold w+1 w", "more"), ("hold w a", "less"), ("hold a a", "same"), ("hold w^w w^2", "more"),
            ("hold 2*w w*2", "less"), ("hold (w+1)*2 w*2+1*2", "less"), ("hold (w*2)^2 w^2*4", "less"),
        ])

    def test_minus(self):
        self.assert_answers([
            ("minus 0 0", "0"), ("minus 7 3", "4"), ("minus w 3", "w"), ("minus w+5 w", "5"), ("minus w*3+1 w", "w*2+1"),
            ("minus w^2 w*7+1", "w^2"), ("minus a a", "0"), ("minus a 0", "w+1"), ("minus w^w+w+1 w^w", "w+1"),
        ])
        self.assert_refused_rows(TooHigh, ["minus 0 1", "minus 3 4", "minus w a", "minus b w", "minus w^2 w^w", "minus a a+1"])

    def test_share(self):
        self.assert_answers([
            ("share 0 1", "0 0"), ("share 7 2", "3 1"), ("share w 2", "w 0"), ("share w+3 2", "w+1 1"), ("share w*3+7 w", "3 7"),
            ("share w^2+w*3+1 w*2", "w+1 w+1"), ("share b a", "0 5"), ("share a a", "1 0"), ("share w^w w", "w^w 0"),
        ])
        self.assert_refused_rows(Nought, ["share 0 0", "share 1 0", "share w 0", "share a w*0"])

    def test_common(self):
        self.assert_answers([
            ("common 0 0", "0 0 0"), ("common w 0", "w 1 0"), ("common 0 a", "w+1 0 1"), ("common 6 4", "2 3 2"),
            ("common w*6+1 w*4+1", "w*2+1 3 2"), ("common w 1", "none"), ("common w w+1", "none"), ("common a a", "w+1 1 1"),
            ("common w^w*2 w^w*3", "w^w 2 3"), ("common w^2 w", "none"), ("common b b*2", "5 1 2"),
        ])

    def test_rung(self):
        self.assert_answers([
            ("rung w 0", "1"), ("rung w 5", "6"), ("rung w^2 w*3+9", "4"), ("rung w^w w^3", "4"), ("rung w^w 0", "0"),
            ("rung w*2 3", "0"), ("rung w*2 w", "1"), ("rung w*2 a", "2"), (f"rung w {SIXTY}", "1" + "0" * 60),
        ])
        self.assert_refused_rows(NoLimit, ["rung 0 0", "rung 1 0", "rung a 0", "rung a w^w", "rung b 9", "rung 0 1"])
        self.assert_refused_rows(TooHigh, ["rung w w", "rung w a", "rung w^2 w^w", "rung w*2 w*2"])

    def test_step(self):
        self.assert_answers([
            ("step 1 0", "0"), ("step 9 5", "8"), ("step w 0", "0"), ("step w 5", "5"), ("step w^w 3", "w^3"), ("step w^2 3", "w*3"),
            ("step a 7", "w"), ("step w^(w+1)*2 2", "w^(w+1)+w^w*2"), (f"step w {SIXTY}", SIXTY), ("step w^w 0", "1"),
        ])
        self.assert_refused_rows(Nought, ["step 0 0", "step 0 5", "step a*0 1"])

    def test_tree(self):
        self.assert_answers([
            ("tree ()", "0"), ("tree (())", "1"), ("tree (()())", "2"), ("tree ((()))", "w"), ("tree (()(()()))", "w^2+1"),
            ("tree ((()())())", "w^2+1"), ("tree (((())))", "w^w"), ("tree ((())(()))", "w*2"),
            ("tree (" + "()" * 599 + ")", "599"),
        ])

    def test_cut(self):
        self.assert_answers([
            ("cut (()) 0 5", "() 0"), ("cut (()()) 1 0", "(()) 1"), ("cut ((())) 0.0 2", "(()()()) 3"), ("cut ((())) 0.0 0", "(()) 1"),
            ("cut (()(()())) 1.0 2", "(()(())(())(())) w*3+1"), ("cut ((()())()) 0.1 1", "((())(())()) w*2+1"),
            ("cut (((()))) 0.0.0 1", "((()())) w^2"), ("cut (" + "()" * 599 + ") 598 " + SIXTY, "(" + "()" * 598 + ") 598"),
        ])
        self.assert_refused_rows(NoHead, [
            "cut () 0 0", "cut (()) 1 0", "cut (()) 0.0 0", "cut ((())) 0 0", "cut ((())) 0.1 0", f"cut (()) {SIXTY} 0",
            f"cut ((())) 0 {SIXTY}", "cut ((())) 0.0.0.0 1", f"cut ((())) 1.0 {SIXTY}",
        ])
        self.assert_refused_rows(TooGreat, [f"cut ((()())) 0.0 {SIXTY}", "cut ((()())) 0.0 299", f"cut ((())) 0.0 {SIXTY}"])
        self.assert_answers([("cut ((()())) 0.0 298", "(" + "(())" * 299 + ") w*299")])

    def test_write(self):
        self.assert_answers([
            ("write 0 2", "0"), ("write 10 2", "w^(w+1)+w"), ("write 10 3", "w^2+1"), ("write 10 10", "w"), ("write 10 11", "10"),
            (f"write {SIXTY} {SIXTY}", "w"), (f"write 9 {SIXTY}", "9"), (f"write {SIXTY} 1" + "0" * 30, "w*" + "9" * 30 + "+" + "9" * 30),
        ])

    def test_down(self):
        self.assert_answers([
            ("down 1 2", "0"), ("down w 3", "2"), ("down w^w 3", "w^2*2+w*2+2"), ("down a 2", "w"), ("down b 6", "4"),
            ("down w^(w+1)+w 2", "w^(w+1)+1"), (f"down w {SIXTY}", "9" * 59 + "8"), ("down w^w*2 3", "w^w+w^2*2+w*2+2"),
        ])
        self.assert_refused_rows(Nought, ["down 0 2", "down 0 3", "down b*0 9"])
        self.assert_refused_rows(NoFit, ["down 2 2", "down b 5", "down w*3 3", "down w^9 2", "down w^201 2", "down w^(w^(w^5)) 5"])
        self.assert_refused_rows(TooGreat, ["down w^201 202", "down w^(w^w) 4", "down w^w 201", "down w^(w^(w^w)) 3"])

    def test_worth(self):
        self.assert_answers([
            ("worth 0 2", "0"), ("worth 7 2", "7"), ("worth w 9", "9"), ("worth w^w 3", "27"), ("worth w^(w+1)+w 3", "84"),
            ("worth a*b 2", "11"), ("worth w^599 10", "1" + "0" * 599), (f"worth w {SIXTY}", SIXTY),
        ])
        self.assert_refused_rows(TooGreat, ["worth w^600 10", "worth w^(w^w) 9", "worth w^(w^(w^w)) 3", f"worth w^w {SIXTY}"])

    def test_two_desks(self):
        first = Desk()
        second = Desk()
        self.assertEqual(first.say("let x w"), "w")
        self.assert_refused(NoName, second.say, "tell x")
        self.assert_refused(NoName, second.say, "drop x")
        self.assertEqual(second.say("let x 2"), "2")
        self.assertEqual([first.say("tell x"), second.say("tell x")], ["w", "2"])
        self.assertEqual(second.say("drop x"), "ok")
        self.assertEqual(first.say("tell x"), "w")
        self.assert_refused(NoName, Desk().say, "tell x")

    def test_every_row_as_its_functions_tell(self):
        at = new_desk()
        numbers = [a for a in RISING if "0" * 60 not in str(a)] + MIXED[::9]
        for a, b in itertools.product(numbers[::2], numbers[1::3]):
            row = f"{shown(a)} {shown(b)}"
            self.assertEqual(at.say("hold " + row), {-1: "less", 0: "same", 1: "more"}[compare(a, b)])
            self.assert_as(at, "minus " + row, lambda: shown(minus(a, b)))
            self.assert_as(at, "share " + row, lambda: " ".join(shown(c) for c in divided(a, b)))
            self.assert_as(at, "rung " + row, lambda: str(rung(a, b)))
            found = common(a, b)
            expected = "none" if found is None else f"{shown(found[0])} {found[1]} {found[2]}"
            self.assertEqual(at.say("common " + row), expected)
        for a in numbers:
            for n in [0, 1, 5]:
                self.assert_as(at, f"step {shown(a)} {n}", lambda: shown(ladder(a, n)))
            for base in [2, 3, 10]:
                self.assert_as(at, f"down {shown(a)} {base}", lambda: shown(down(a, base)))
                self.assert_as(at, f"worth {shown(a)} {base}", lambda: str(worth(a, base)))
        for m, base in itertools.product([0, 1, 9, 1000, 10 ** 59 + 7], [2, 3, 10, 10 ** 59]):
            self.assertEqual(at.say(f"write {m} {base}"), shown(written(m, base)))

    def assert_as(self, at, row, function):
        try:
            expected = function()
        except HydraError as refusal:
            self.assert_refused(refusal.__class__, at.say, row)
        else:
            self.assertEqual(at.say(row), expected, row)

    def test_every_cut_as_its_functions_tell(self):
        at = new_desk()
        for tree in TREES[::3]:
            text = tree_shown(tree)
            self.assertEqual(at.say(f"tree {text}"), shown(number_of(tree)))
            for way in heads(tree):
                for many in [0, 2]:
                    found = cut(tree, way, many)
                    row = f"cut {text} {'.'.join(str(place) for place in way)} {many}"
                    self.assertEqual(at.say(row), f"{tree_shown(found)} {shown(number_of(found))}")


class NoRows(DeskCase):
    def test_each_row_with_good_words(self):
        for first in ROWS:
            with self.subTest(first=first):
                self.assertIsInstance(new_desk().say(" ".join([first] + good_words(first))), str)

    def test_one_word_too_few_and_one_too_many(self):
        for first in ROWS:
            words = [first] + good_words(first)
            self.assert_refused_rows(NoRow, [
                " ".join(words[:-1]), " ".join(words + [words[-1]]), " ".join(words + ["w"]), " ".join(words + ["\n"]), first,
                " ".join(words + ["q"]), " ".join(words + ["2^25"]),
            ])

    def test_an_unlike_first_word(self):
        for first in ROWS:
            words = good_words(first)
            self.assert_refused_rows(NoRow, [
                " ".join([other] + words) for other in
                [first.upper(), first.title(), first + "s", first[:-1], "\t" + first, first + "\n", "w", "0", first + ":", "say"]
            ])

    def test_blanks(self):
        for first in ROWS:
            words = [first] + good_words(first)
            row = " ".join(words)
            self.assert_refused_rows(NoRow, [" " + row, row + " ", "  " + row, row + "  ", " " + row + " "])
            for place in range(1, len(words)):
                ahead, behind = " ".join(words[:place]), " ".join(words[place:])
                self.assert_refused_rows(NoRow, [f"{ahead}  {behind}", f"{ahead}   {behind}"])
                # a blank in a word's place, so that there are as many
                self.assert_refused_rows(NoRow, [" ".join(words[:place] + [""] + words[place + 1:])])
        self.assert_refused_rows(NoRow, ["", " ", "  ", "   "])

    def test_line_ends_and_tabs_are_no_blanks(self):
        for sign in "\n\t\r":
            for first in ROWS:
                words = [first] + good_words(first)
                rows = [sign.join(words), sign + " ".join(words), words[0] + sign + " ".join(words[1:]), sign, first + sign]
                self.assert_refused_rows(NoRow, rows)
        self.assert_refused_rows(NoText, ["tell w\n", "tell \nw", "tell w+\n1", "let c w\n", "let c\n w", "tree ()\n", "step w 1\n"])
        self.assert_refused_rows(NoText, ["hold w w\t", "hold w\t w", "cut (()) 0\n 1", "write 1 2\n", "tell \t", "tell \n"])
        self.assert_refused_rows(NoName, ["drop a\n", "drop \ta"])

    def test_no_row_of_any_kind(self):
        for thing in NO_TEXTS + [["tell", "w"], ("tell", "w"), {"tell": "w"}, b"tell w"]:
            with self.subTest(thing=str(thing)[:80]):
                self.assert_refused(NoRow, new_desk().say, thing)
        at = new_desk()
        for thing in NO_TEXTS:
            self.assert_refused(NoRow, at.say, thing)
        self.assert_kept(at)

    def test_no_row_ahead_of_no_word(self):
        self.assert_refused_rows(NoRow, [
            "tell q q", "let w", "let W w w", "tell 2^25 +", "hold +", "hold + + +", "drop q q", "cut x x", "cut x x x x", "down 0",
            "write 0 0 0", "worth w 1 1", "down 0 1 1", "tell  q", "tell q ", " tell +", "share 0  0", "rung  1",
        ])


class NoWords(DeskCase):
    def test_each_kind_of_word_in_each_place(self):
        for first, kinds in ROWS.items():
            for place, kind in enumerate(kinds):
                at = new_desk()
                for word, error in BAD[kind]:
                    words = good_words(first)
                    words[place] = word
                    with self.subTest(first=first, place=place, word=word[:60]):
                        self.assert_refused(error, at.say, " ".join([first] + words))
                self.assert_kept(at)

    def test_the_first_from_the_left_counts(self):
        for first, kinds in ROWS.items():
            for places in [(0, 1), (0, 2), (1, 2), (0, 1, 2)]:
                if places[-1] >= len(kinds):
                    continue
                at = new_desk()
                for bad in itertools.product(*[BAD[kinds[place]][::3] for place in places]):
                    words = good_words(first)
                    for place, (word, error) in zip(places, bad):
                        words[place] = word
                    with self.subTest(first=first, words=str(words)[:90]):
                        self.assert_refused(bad[0][1], at.say, " ".join([first] + words))
                self.assert_kept(at)

    def test_written_out(self):
        self.assert_refused_rows(NoText, [
            "hold + q", "hold + 2^25", "let W q", "let W 2^25", "let w w", "let 1 1", "step + +", "down + 0", "cut ( a b", "write w 2",
            "write 2 w", "worth w w", "down w a", "step w b", "step w w", "let A a", "hold w +", "cut (()) 0 -1", "cut (()) x 0",
        ])
        self.assert_refused_rows(NoName, [
            "hold q +", "hold q 2^25", "let c q", "drop q", "drop w", "drop 1", "drop +", "drop ()", "down q -1", "worth q 0",
            "minus q+2^25 q", "let q q",
        ])
        self.assert_refused_rows(TooGreat, [
            "hold 2^25 +", "hold 2^25 q", "let c 2^25", "let a 2^25", "tell 2^25", "down 2^25 +", "worth 2^25 0", "step b^25 x",
            "rung 2^25 +", "share 2^25 0", "tell 0*2^25",
        ])

    def test_a_name_that_is_none_ahead_of_its_expression(self):
        self.assert_refused_rows(NoText, ["let w q", "let abcdefghi 2^25", "let a+b q", "let a.b a"])

    def test_expressions_of_2000_and_2001_signs(self):
        self.assertEqual(new_desk().say("tell " + "1+" * 999 + "10"), "1009")
        self.assertEqual(new_desk().say("let c " + "1+" * 999 + "10"), "1009")
        self.assertEqual(new_desk().say("hold " + "1+" * 999 + "10 " + "1*" * 999 + "22"), "more")
        self.assert_refused_rows(NoText, ["tell " + "1+" * 1000 + "1", "hold w " + "1+" * 1000 + "1", "let c " + "1+" * 1000 + "1"])

    def test_sixty_and_sixty_one_figures(self):
        self.assert_answers([(f"tell {SIXTY}", SIXTY), (f"step w {SIXTY}", SIXTY), (f"write 1 {SIXTY}", "1")])
        self.assert_refused_rows(NoText, [f"tell {LONGER}", f"step w {LONGER}", f"write 1 {LONGER}", f"write {LONGER} 2"])
        self.assert_refused_rows(NoText, [f"worth w {LONGER}", f"down w {LONGER}", f"cut (()) 0 {LONGER}", f"cut (()) {LONGER} 0"])

    def test_trees_at_the_bounds(self):
        self.assert_answers([
            ("tree " + "(" * 41 + ")" * 41, shown(number_of(tree_read("(" * 41 + ")" * 41)))),
            ("cut (" + "()" * 599 + ") 0 0", "(" + "()" * 598 + ") 598"),
        ])
        self.assert_refused_rows(NoText, ["tree " + "(" * 42 + ")" * 42, "cut (" + "()" * 600 + ") 0 0", "tree (" + "()" * 600 + ")"])


class Bases(DeskCase):
    def test_a_base_below_2(self):
        for base in ["0", "1"]:
            self.assert_refused_rows(NoNumber, [
                f"write 0 {base}", f"write 10 {base}", f"write {SIXTY} {base}", f"down w {base}", f"worth w {base}",
                # ahead of what the deed would refuse
                f"down 0 {base}", f"down 7 {base}", f"down w^w*9 {base}", f"down w^(w^(w^w)) {base}", f"worth w^(w^(w^w)) {base}",
                f"worth 0 {base}", f"down a {base}", f"worth a {base}",
            ])
        self.assert_answers([("write 1 2", "1"), ("down 1 2", "0"), ("worth 1 2", "1")])

    def test_behind_words_that_are_none(self):
        for base in ["0", "1"]:
            self.assert_refused_rows(NoText, [f"write w {base}", f"write -1 {base}", f"down + {base}", f"worth () {base}"])
            self.assert_refused_rows(NoName, [f"down q {base}", f"worth q+w {base}"])
            self.assert_refused_rows(TooGreat, [f"down 2^25 {base}", f"worth 2^25 {base}"])
            self.assert_refused_rows(NoRow, [f"write {base}", f"down w {base} {base}", f"worth  {base}"])

    def test_other_whole_numbers_may_be_below_2(self):
        self.assert_answers([("write 0 2", "0"), ("write 1 2", "1"), ("step w 0", "0"), ("step w 1", "1"), ("cut (()) 0 0", "() 0")])


class Refused(DeskCase):
    def test_what_is_kept_is_as_before(self):
        at = new_desk()
        rows = [
            "let a +", "let a q", "let a 2^25", "let a a+", "let a b^25", "let w 1", "let a", "let a w w", "let a  w", "drop q",
            "drop a b", "drop a ", "drop  a", "drop A", "let A 1", "let a ()", "minus 0 1", "share a 0", "down 0 2", "rung a a",
            "cut () 0 0", "worth w^600 10", "write 1 1", "let c 2^25", "let c q", "let a w\n",
        ]
        for row in rows:
            with self.subTest(row=row):
                with self.assertRaises(HydraError):
                    at.say(row)
                self.assert_kept(at)

    def test_rows_that_ask_change_nothing(self):
        at = new_desk()
        for first in ROWS:
            if first not in ["let", "drop"]:
                at.say(" ".join([first] + good_words(first)))
                self.assert_kept(at)

    def test_many_names(self):
        at = Desk()
        names = ["".join(letters) for letters in itertools.product("abcdefg", repeat=3)][:300]
        for n, name in enumerate(names):
            self.assertEqual(at.say(f"let {name} w*{n + 2}+{n + 1}"), f"w*{n + 2}+{n + 1}")
        for n, name in enumerate(names):
            self.assertEqual(at.say(f"tell {name}"), f"w*{n + 2}+{n + 1}")
        self.assertEqual(at.say("tell " + "+".join(names)), f"w*{sum(range(2, 302))}+300")
        for name in names[::2]:
            self.assertEqual(at.say(f"drop {name}"), "ok")
        for n, name in enumerate(names):
            if n % 2 == 0:
                self.assert_refused(NoName, at.say, f"tell {name}")
            else:
                self.assertEqual(at.say(f"tell {name}"), f"w*{n + 2}+{n + 1}")


class Limits(DeskCase):
    def test_what_is_kept_grows_until_it_is_too_great(self):
        at = Desk()
        at.say("let t w")
        for step in range(37):
            at.say("let t w^t")
        self.assertEqual(at.say("let t w^t"), shown(tower(39)))
        self.assert_refused(TooGreat, at.say, "let t w^t")
        self.assertEqual(at.say("hold w^w t"), "less")

    def test_samples_that_are_limits(self):
        at = Desk()
        for a in MIXED[::7]:
            row = f"rung {shown(a)} 0"
            if is_limit(a):
                self.assertIn(at.say(row), ["0", "1"])
            else:
                self.assert_refused(NoLimit, at.say, row)
        self.assertEqual(number(at.say("tell w^(w+1)+1")), number("w^(w+1)+1"))


if __name__ == "__main__":
    unittest.main()
