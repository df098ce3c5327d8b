import itertools
import random
import re
import unittest

from cases import Case
from expressions import is_expression, some_expression, value_of
from hydrahouse import texts
from hydrahouse.errors import NoName, NoText, TooGreat
from hydrahouse.forms import deep, greatest, is_number, parts_in_all
from hydrahouse.powers import power
from hydrahouse.texts import read, shown, tree_read, tree_shown
from samples import FIVE, MIXED, NO_TEXTS, ONE, RISING, TWO, W, W_W, ZERO, broad, named, number, tower
from woods import BARE, MORE, TREES, star, stick

SIXTY = "9" * 60
SIX_HUNDRED = 10 ** 600
EXAMPLE = "w^(w+1)*2+w^3+w*5+7"


class Interface(Case):
    def test_arguments(self):
        self.assert_arguments(texts, {
            "shown": "(a)", "read": "(text, names=None)", "tree_shown": "(tree)", "tree_read": "(text)",
        })


class Shown(Case):
    def test_written_out(self):
        table = [
            (ZERO, "0"), (ONE, "1"), (TWO, "2"), ((((), 10),), "10"), (W, "w"), (((ONE, 2),), "w*2"),
            (((ONE, 1), ((), 1)), "w+1"), (((ONE, 12), ((), 34)), "w*12+34"), (((TWO, 1),), "w^2"),
            (((TWO, 3),), "w^2*3"), ((((((), 10),), 1),), "w^10"), (W_W, "w^w"), (((W, 4),), "w^w*4"),
            (((((ONE, 2),), 1),), "w^(w*2)"), (((((ONE, 1), ((), 1)), 1),), "w^(w+1)"),
            (((((TWO, 1),), 1),), "w^(w^2)"), (((((TWO, 1),), 5), (FIVE, 1)), "w^(w^2)*5+w^5"),
            (((W_W, 1),), "w^(w^w)"), (((((W_W, 1),), 2),), "w^(w^(w^w))*2"),
            (((((W, 1), ((), 1)), 1), (W, 1), (ONE, 1), ((), 1)), "w^(w^w+1)+w^w+w+1"),
            (((((((ONE, 1), ((), 1)), 1),), 1),), "w^(w^(w+1))"),
            (((((ONE, 1), ((), 1)), 2), ((((), 3),), 1), (ONE, 5), ((), 7)), EXAMPLE),
            ((((((), SIX_HUNDRED),), SIX_HUNDRED),), f"w^{SIX_HUNDRED}*{SIX_HUNDRED}"),
        ]
        for a, expected in table:
            with self.subTest(expected=expected):
                found = shown(a)
                self.assertEqual(found, expected)
                self.assertIs(found.__class__, str)

    def test_what_the_sample_reader_reads_again(self):
        for a in RISING + MIXED:
            self.assertEqual(number(shown(a)), a)

    def test_unlike_numbers_have_unlike_texts(self):
        numbers = set(RISING + MIXED)
        self.assertEqual(len(set(shown(a) for a in numbers)), len(numbers))

    def test_nothing_but_what_need_be(self):
        for a in RISING + MIXED:
            text = shown(a)
            self.assertNotRegex(text, r"[^0-9w+*^()]|\*1(?![0-9])|\^1(?![0-9])|\^\([0-9]+\)|\^\(w\)|\^0|\*0")
            self.assertNotRegex(text, r"\A0.|[+]0")

    def test_at_the_bounds(self):
        self.assertEqual(shown(tower(44)), "w^(" * 42 + "w^w" + ")" * 42)
        expected = "+".join(["w*3" if n == 1 else f"w^{n}*3" for n in range(2999, 0, -1)] + ["3"])
        self.assertEqual(shown(broad(3000)), expected)
        great = "9" * 4000
        whole_number = int(great[:2000]) * 10 ** 2000 + int(great[2000:])
        self.assertEqual(shown((((), whole_number),)), great)
        self.assertEqual(shown(((ONE, whole_number),)), "w*" + great)
        deep_and_broad = ((tower(43), 10 ** 399), (broad(2900), 1))
        self.assertEqual(number(shown(deep_and_broad)), deep_and_broad)


class Read(Case):
    def test_written_out(self):
        table = [
            ("0", "0"), ("1", "1"), ("7", "7"), ("10", "10"), ("w", "w"), (EXAMPLE, EXAMPLE),
            # sums
            ("1+w", "w"), ("w+1", "w+1"), ("1+1", "2"), ("0+0", "0"), ("w+0", "w"), ("0+w", "w"), ("1+2+w+3+4", "w+7"),
            ("w+w", "w*2"), ("w+w^2", "w^2"), ("w^2+w+w^2", "w^2*2"), ("w+1+w", "w*2"), ("5+w*0", "5"),
            # products
            ("2*w", "w"), ("w*2", "w*2"), ("2*3*4", "24"), ("w*w", "w^2"), ("w*2*w", "w^2"), ("w*w*2", "w^2*2"),
            ("0*w", "0"), ("w*0", "0"), ("(w+1)*2", "w*2+1"), ("(w+1)*w", "w^2"), ("2*(w+1)", "w+2"), ("1*1*1", "1"),
            ("w+1*2", "w+2"), ("w*2+1*3", "w*2+3"), ("1+1*w", "w"), ("(1+1)*w+1", "w+1"),
            # powers
            ("2^3", "8"), ("3^2", "9"), ("2^w", "w"), ("w^0", "1"), ("0^0", "1"), ("0^w", "0"), ("0^1", "0"), ("1^w", "1"),
            ("w^w", "w^w"), ("w^1", "w"), ("(w*2)^2", "w^2*2"), ("(w+1)^2", "w^2+w+1"), ("2^(w+2)", "w*4"), ("w*2^2", "w*4"),
            ("2*3^2", "18"), ("2^3*2", "16"), ("2+3^2", "11"), ("w^2*w^0", "w^2"), ("(w^w)^w", "w^(w^2)"),
            ("w^(w^w)", "w^(w^w)"), ("(2^2)^3", "64"), ("2^(2^3)", "256"), ("(w+1)^w", "w^w"), ("w^(1+w)", "w^w"),
            ("w^2*w^3", "w^5"), ("w^3+w^2*4+w^2*2", "w^3+w^2*6"), ("w^(2)", "w^2"), ("w^(w)", "w^w"), ("(w)^(w)", "w^w"),
            # brackets
            ("(0)", "0"), ("((w))", "w"), ("(1+w)+1", "w+1"), ("1+(w+1)", "w+1"), ("(w+1)*(w+1)", "w^2+w+1"),
            ("((1)+((w)))*((2))", "w*2"), ("w*(1+1)", "w*2"), ("(((2)))^(((3)))", "8"),
        ]
        for text, expected in table:
            with self.subTest(text=text):
                found = read(text)
                self.assertEqual(found, number(expected))
                self.assertTrue(is_number(found))

    def test_what_is_shown_is_read_again(self):
        for a in RISING + MIXED + [tower(20), broad(200), stick_of_sums(19)]:
            with self.subTest(**named(a)):
                if greatest(a) < 10 ** 60:
                    self.assertEqual(read(shown(a)), a)

    def test_whole_numbers(self):
        for text in ["0", "9", "10", "90", "100", "1" + "0" * 59, SIXTY]:
            self.assertEqual(read(text), number(text))
            self.assertEqual(read(f"w^{text}+{text}"), read("w^n+n", {"n": number(text)}))
        self.assertEqual(read(SIXTY), (((), 10 ** 60 - 1),))
        for text in ["9" * 61, "1" + "0" * 60, "0" * 61, "00", "01", "007", "0" + SIXTY, "0" * 60, "9" * 2000, "9" * 5000]:
            for around in ["{}", "w+{}", "{}*w", "w^{}", "({})", "{}^0", "0*{}", "0^{}"]:
                self.assert_refused(NoText, read, around.replace("{}", text))

    def test_names(self):
        names = {"a": W, "z": FIVE, "abcdefgh": number("w^w+1"), "ww": TWO, "wa": ONE, "aw": ZERO, "wwwwwwww": W_W}
        table = [
            ("a", "w"), ("z", "5"), ("abcdefgh", "w^w+1"), ("ww", "2"), ("wa", "1"), ("aw", "0"), ("wwwwwwww", "w^w"),
            ("a+z", "w+5"), ("z+a", "w"), ("a*ww", "w*2"), ("a^a", "w^w"), ("ww^z", "32"), ("(a+wa)*ww", "w*2+1"),
            ("abcdefgh+abcdefgh", "w^w*2+1"), ("w*ww+w", "w*3"), ("(a)", "w"), ("w^aw", "1"), ("a+1", "w+1"),
        ]
        for text, expected in table:
            with self.subTest(text=text):
                self.assertEqual(read(text, names), number(expected))

    def test_names_are_one_to_eight_small_letters(self):
        names = dict((name, ONE) for name in [
            "abcdefghi", "wwwwwwwww", "A", "Ab", "aB", "a1", "1a", "a_", "_", "", " ", "a b", "2", "W", "a.b", "(a)", "w1",
        ])
        for name in names:
            if name not in ["2", "(a)"]:
                self.assert_refused(NoText, read, name, names)
                self.assert_refused(NoText, read, f"w+{name}", names)
        self.assertEqual(read("2", names), TWO)
        self.assert_refused(NoName, read, "(a)", names)

    def test_w_is_never_a_name(self):
        self.assertEqual(read("w", {"w": FIVE}), W)
        self.assertEqual(read("w+ww", {"w": FIVE, "ww": ONE}), number("w+1"))

    def test_names_that_name_no_number(self):
        for text in ["a", "ww", "wa", "aw", "abcdefgh", "w+a", "a+w", "(a)", "w^a", "a^w", "0*a", "a*0", "a^0", "0^a"]:
            self.assert_refused(NoName, read, text)
            self.assert_refused(NoName, read, text, None)
            self.assert_refused(NoName, read, text, {})
            self.assert_refused(NoName, read, text, {"b": W, "A": W, "aa": W, "w": W, "": W})
        self.assert_refused(NoName, read, "a+b", {"a": W})
        self.assert_refused(NoName, read, "b+a", {"a": W})

    def test_the_order_of_refusals(self):
        names = {"a": W}
        # no text, and a name that names no number: ahead of it, behind it, in it
        for text in ["b+", "+b", "b+(", "b b", "b+ 1", "b*00", "b+abcdefghi", "abcdefghi+b", "w^w^b", "b^b^b", "(b", "b)",
                     "b+9" + SIXTY, "(" * 21 + "b" + ")" * 21, "b+" * 1000 + "1", "b\n"]:
            self.assert_refused(NoText, read, text, names)
            self.assert_refused(NoText, read, text)
        # a name that names no number, and what is too great
        for text in ["2^25+b", "b+2^25", "b^(2^25)", "(2^25)*b", f"{SIXTY}*{SIXTY}*{SIXTY}*{SIXTY}*{SIXTY}*{SIXTY}+b"]:
            self.assert_refused(NoName, read, text, names)
            self.assert_refused(TooGreat, read, text.replace("b", "a"), names)
        # no text, and what is too great
        for text in ["2^25+", "2^25+00", "2^25^1", "(2^25", "2^25)", "2^25+()"]:
            self.assert_refused(NoText, read, text)

    def test_no_text(self):
        table = [
            "", " ", "()", "(", ")", ")(", "+", "*", "^", "+1", "-1", "1-1", "*1", "^1", "1+", "1*", "1^", "w+", "w^", "w*",
            "1++1", "1**1", "w^^2", "1+*1", "1*+1", "w^+1", "w^*1", "w+^1", "+w", "w w", "w +1", "w+ 1", " w", "w ", "( w)",
            "w\n", "\nw", "w\t", "w+\n1", "1\r", "w^w^w", "2^2^2", "1^1^1", "w^2^3+1", "1+w^2^3", "(w^2^3)", "w^(w)^w",
            "(w)^w^w", "w^w^(w)", "w()", "()w", "w(1)", "(1)w", "(1)(1)", "2w", "w2", "1a", "a1", "2(w)", "(w)2", "w^()",
            "((w)", "(w))", "w)", "(w", "(()w)", "((+))", "(1+)", "(+1)", "(1+)1", "1.0", "1,0", "1_0", "0x1", "1e3", "+0",
            "W", "w^W", "A", "/", "w/2", "w%2", "w-1", "w=1", "[w]", "{w}", "<w>", "w;w", "w,w", "'w'", '"w"', "w#", "w!",
            "w&w", "w|w", "~w", "@w", "$", "?", "\\", "`", "_", "0w", "w0", "None", "True", "()()", "(())", "w\0", "\0",
            "\x0b1", "1\x0c", "\x1f", "\x7f",
        ]
        for text in table:
            with self.subTest(text=text):
                self.assert_refused(NoText, read, text)
                self.assert_refused(NoText, read, text, {"a": W, "x": W, "e": W})

    def test_no_text_of_any_kind(self):
        for thing in NO_TEXTS:
            with self.subTest(thing=str(thing)[:80]):
                self.assert_refused(NoText, read, thing)
                self.assert_refused(NoText, read, thing, {"w": W, "a": ONE})

    def test_brackets_twenty_and_twenty_one_deep(self):
        for inmost in ["w", "1+w", "w*2", "a"]:
            expected = read(inmost, {"a": W})
            self.assertEqual(read("(" * 20 + inmost + ")" * 20, {"a": W}), expected)
            self.assert_refused(NoText, read, "(" * 21 + inmost + ")" * 21, {"a": W})
        self.assertEqual(read("w^(" * 20 + "w" + ")" * 20), tower(21))
        self.assert_refused(NoText, read, "w^(" * 21 + "w" + ")" * 21)
        # how deep, not how many
        self.assertEqual(read("+".join(["((1))"] * 100)), (((), 100),))
        self.assertEqual(read("(" * 20 + "1" + ")" * 20 + "+" + "(" * 20 + "1" + ")" * 20), TWO)
        self.assert_refused(NoText, read, "1+" + "(" * 19 + "1+((1))" + ")" * 19)
        self.assertEqual(read("1+" + "(" * 19 + "1+(1)" + ")" * 19), (((), 3),))
        for text in ["(" * 2000, ")" * 2000, "(" * 1000 + ")" * 1000, "(" * 999 + "ww" + ")" * 999]:
            self.assert_refused(NoText, read, text)

    def test_texts_of_2000_and_2001_signs(self):
        table = [
            ("1+" * 999 + "10", "1+" * 999 + "100", 1009), ("1*" * 999 + "22", "1*" * 1000 + "2", 22),
            ("(1)+" * 499 + "(11)", "(1)+" * 499 + "(111)", 510), ("(1)^1+" * 332 + "10^(0)+2", "(1)^1+" * 333 + "111", 335),
        ]
        for good, bad, expected in table:
            with self.subTest(good=good[:20]):
                self.assertEqual([len(good), len(bad)], [2000, 2001])
                self.assertEqual(read(good), (((), expected),))
                self.assert_refused(NoText, read, bad)
        self.assertEqual(read("a*" * 996 + "abcdefgh", {"a": ONE, "abcdefgh": W}), W)
        self.assert_refused(NoText, read, "a*" * 997 + "abcdefg", {"a": ONE, "abcdefg": W})
        self.assert_refused(NoText, read, "a+" * 1000 + "1")
        self.assert_refused(NoText, read, "1+" * 100000 + "1")

    def test_all_short_texts(self):
        met = 0
        for size in range(6):
            for signs in itertools.product("w0a+*^()", repeat=size):
                text = "".join(signs)
                if not is_expression(text):
                    with self.assertRaises(NoText, msg=text):
                        read(text, NAMES)
                elif re.search("[a-z]{2}", text):
                    with self.assertRaises(NoName, msg=text):
                        read(text, {"a": W})
                else:
                    met += 1
                    self.assertEqual(read(text, NAMES), value_of(text, NAMES), text)
        self.assertGreater(met, 300)

    def test_longer_texts_of_few_signs(self):
        chance = random.Random(35)
        met = 0
        for step in range(4000):
            text = some_expression(chance, chance.randrange(1, 9), ["a", "b", "ww"])
            if chance.random() < 0.3:
                place = chance.randrange(len(text))
                text = text[:place] + chance.choice(["", "(", ")", "+", "w", "1", "^", " "]) + text[place + 1:]
            with self.subTest(text=text):
                if not is_expression(text):
                    self.assert_refused(NoText, read, text, NAMES)
                elif not set(re.findall("[a-z]+", text)) <= {"w"} | set(NAMES):
                    self.assert_refused(NoName, read, text, NAMES)
                else:
                    met += 1
                    self.assert_as_told(text)
        self.assertGreater(met, 2500)

    def assert_as_told(self, text):
        try:
            expected = value_of(text, NAMES)
        except TooGreat:
            self.assert_refused(TooGreat, read, text, NAMES)
        else:
            self.assertEqual(read(text, NAMES), expected)

    def test_what_is_handed_in_is_not_changed(self):
        names = {"a": W, "b": FIVE}
        self.assert_unchanged(read, "a+b*w", names)
        self.assert_refused(NoName, read, "a+c", names)
        self.assert_refused(NoText, read, "a+", names)
        self.assert_refused(TooGreat, read, "b^25", names)
        self.assertEqual(names, {"a": W, "b": FIVE})
        self.assert_unchanged(shown, W_W)


NAMES = {"a": number("w^2+w*3+4"), "b": number("w^w*2+w"), "ww": TWO}


def stick_of_sums(height):
    # w to (w to (.. + 1) + 1): as many brackets as it is high
    found = ((ONE, 1), ((), 1))
    for step in range(height):
        found = ((found, 2), ((), 1))
    return found


def figures(many):
    return (((), 10 ** many - 1),)


class TooGreatOnes(Case):
    def assert_reaches(self, text, names, wanted):
        found = read(text, names)
        self.assertEqual(found, value_of(text, names))
        self.assertEqual(wanted[0](found), wanted[1])

    def test_400_and_401_parts_in_all(self):
        # sums: 200 parts, and their 200 exponents but one
        names = {"x": broad(200)[:-1], "y": broad(200), "v": broad(201)[1:], "one": ONE, "u": broad(201)[:1]}
        self.assertEqual([parts_in_all(names[name]) for name in "xyvu"], [398, 399, 399, 2])
        self.assert_reaches("x+1", names, (parts_in_all, 399))
        self.assert_reaches("x+0", names, (parts_in_all, 398))
        # two parts in all more, as its exponent is a part too
        self.assert_reaches("u+x", names, (parts_in_all, 400))
        self.assert_refused(TooGreat, read, "u+y", names)
        self.assert_refused(TooGreat, read, "u+x+1", names)
        # products and powers
        self.assert_reaches("w^(w*2)*x", {"x": parts(100)}, (parts_in_all, 400))
        self.assert_refused(TooGreat, read, "w^(w*2)*x", {"x": parts(100) + ONE})
        self.assert_reaches("w^x", {"x": parts(199) + ONE}, (parts_in_all, 400))
        self.assert_refused(TooGreat, read, "w^x", {"x": parts(200)})
        names = {"at": broad(201)[:-1], "above": broad(201)}
        self.assertEqual([parts_in_all(a) for a in names.values()], [400, 401])
        for text in ["{}+0", "0+{}", "{}*1", "1*{}", "1+{}"]:
            self.assert_reaches(text.replace("{}", "at"), names, (parts_in_all, 400))
            self.assert_refused(TooGreat, read, text.replace("{}", "above"), names)
        # 17 parts and their exponents but one for the 1: by 12 factors 12 times 16 and one, by 13 too many
        self.assert_reaches("(x+1)^12", {"x": parts(16)}, (parts_in_all, 12 * 16 * 2 + 1))
        self.assert_refused(TooGreat, read, "(x+1)^13", {"x": parts(16)})

    def test_where_the_last_answer_would_be_small_again(self):
        names = {"x": parts(200), "n": figures(300), "t": tower(39)}
        for text in ["(w^x)*0", "0*(w^x)", "(w^x)^0", "0^(w^x)", "1^(w^x)", "(x+1)*0", "x+1+w^w", "x+1+x", "(x+1)^0",
                     "(n+1)*0", "n+1+w", "1^(n+1)", "(n*2)^0", "n*n*0", "0*(n*2)", "2^25*0", "0*2^25", "(2^25)^0",
                     "(w^(w^t))*0", "w^(w^t)*0", "w^(w^t)+w^(w^(w^t))", "(w^(w^t))^0", "0*(w^(w^t))"]:
            with self.subTest(text=text):
                self.assert_refused(TooGreat, read, text, names)
        # from the left: the product with 0 comes first, or the sum that falls away
        for text, expected in [("0*n*n", "0"), ("0*x+1", "1"), ("n*0*n", "0"), ("n*0+n*0", "0"), ("x*0+w", "w")]:
            self.assertEqual(read(text, names), number(expected))

    def test_300_and_301_figures(self):
        names = {"n": figures(300), "m": (((), 10 ** 300 - 2),), "half": (((), 10 ** 150),), "tenth": figures(299)}
        table = [
            ("m+1", "m+2"), ("m+1", "n+1"), ("w*m+w", "w*n+w"), ("w+m+1", "w+n+1"), ("w^n+1", "w^(n+1)"),
            ("tenth*10", "n*10"), ("tenth*10", "tenth*11"), ("w*tenth*10", "w*n*2"), ("half*tenth^0", "half*half"),
            ("w*half*tenth^0", "w*half*half"), ("w^(half*9)", "w^(half*half)"), ("half*9", "half*9*half"),
            ("n*1", "n*2"), ("n+0", "n+n"), ("w^w*n+w", "w^w*n+w^w"),
        ]
        for good, bad in table:
            with self.subTest(good=good, bad=bad):
                self.assertEqual(read(good, names), value_of(good, names))
                self.assert_refused(TooGreat, read, bad, names)
        self.assertEqual(greatest(read("m+1", names)), 10 ** 300 - 1)
        # by products of what is written out: 300 figures, then 301
        great = "1" + "0" * 59
        self.assertEqual(read("*".join([great] * 5)), (((), 10 ** 295),))
        self.assertEqual(read("*".join([great] * 5 + ["99999"])), (((), 99999 * 10 ** 295),))
        self.assert_refused(TooGreat, read, "*".join([great] * 5 + ["100000"]))
        self.assertEqual(read(f"{great}^5*99999"), (((), 99999 * 10 ** 295),))
        self.assert_refused(TooGreat, read, f"{great}^6")
        self.assertEqual(read(f"{great}^5"), (((), 10 ** 295),))
        fifty = "1" + "0" * 50
        self.assertEqual(read(f"{'9' * 50}^6"), (((), (10 ** 50 - 1) ** 6),))
        self.assertEqual(read(f"{SIXTY}^5"), (((), (10 ** 60 - 1) ** 5),))
        self.assertEqual(len(str((10 ** 50 - 1) ** 6)), 300)
        self.assertEqual(len(str((10 ** 60 - 1) ** 5)), 300)
        self.assert_refused(TooGreat, read, f"{fifty}^6")
        self.assertEqual(read(f"w^w*{fifty}^5*{'9' * 50}"), ((W, (10 ** 50 - 1) * 10 ** 250),))
        self.assert_refused(TooGreat, read, f"w^w*{fifty}^5*{fifty}")
        for text in ["{}+0", "0+{}", "{}*1", "1*{}"]:
            self.assertEqual(read(text.replace("{}", "x"), {"x": ((W, 10 ** 300 - 1), ((), 1))}), ((W, 10 ** 300 - 1), ((), 1)))
            self.assert_refused(TooGreat, read, text.replace("{}", "x"), {"x": ((W, 10 ** 300), ((), 1))})
            self.assert_refused(TooGreat, read, text.replace("{}", "x"), {"x": (((((), 10 ** 300),), 1),)})

    def test_40_and_41_deep(self):
        names = {"t": tower(38), "u": tower(39)}
        self.assertEqual([deep(names["t"]), deep(names["u"])], [39, 40])
        table = [
            ("w^t", "w^u"), ("u+1", "w^u+1"), ("w^(t+1)", "w^(u+1)"), ("u*w", "w^u*w"), ("w^t*w^t", "w*w^u"), ("u+u", "u^u"),
            ("t^t", "t^u"), ("1+u", "1+w^u"), ("1+w^t", "w^(w^t)"), ("2^t", "2^u"), ("u^2", "2^(w^t)"), ("u^w", "(w+1)^u"),
        ]
        for good, bad in table:
            with self.subTest(good=good, bad=bad):
                self.assertEqual(read(good, names), value_of(good, names))
                self.assert_refused(TooGreat, read, bad, names)
        for text in ["{}+0", "0+{}", "{}*1", "1*{}", "1+{}"]:
            self.assertEqual(read(text.replace("{}", "u"), names), tower(39))
            self.assert_refused(TooGreat, read, text.replace("{}", "u"), {"u": tower(40)})
        self.assertEqual(deep(read("w^t", names)), 40)
        self.assertEqual(deep(read("w^t+w^t", names)), 40)

    def test_only_what_has_come_of_two_things_is_bounded(self):
        names = {"x": broad(3000), "t": tower(44), "n": (((), 10 ** 399),), "m": ((broad(2000), 10 ** 399), (tower(43), 2))}
        for name, kept in names.items():
            for text in [name, f"({name})", f"(({name}))"]:
                self.assertEqual(read(text, names), kept)
            for text in [f"{name}+0", f"0+{name}", f"1+{name}", f"{name}*1", f"1*{name}", f"{name}+{name}"]:
                with self.subTest(text=text):
                    self.assert_refused(TooGreat, read, text, names)
            for text in [f"{name}*0", f"0*{name}", f"{name}^0"]:
                with self.subTest(text=text):
                    self.assertEqual(read(text, names), number("1" if "^" in text else "0"))
            self.assertEqual(read(f"1^{name}", names), ONE)
            self.assertEqual(read(f"0^{name}", names), ZERO)
        self.assertEqual(read("n+w", names), W)
        self.assertEqual(read("x+t*0+1+w^(w^w)", {"x": W, "t": names["t"]}), number("w^(w^w)"))

    def test_what_is_handed_in_at_the_bounds(self):
        names = dict((name, broad(3000)) for name in ["x", "y"])
        names["e"] = ((broad(3000), 1),)
        names["z"] = ((broad(2900), 1),) + broad(20)
        for text in ["x*x", "x+y", "e*x", "x*e", "e^x", "x^e", "e^e", "e*e", "z*z", "z^z", "z^24", "(w^e)*x", "e^24", "e^25"]:
            with self.subTest(text=text):
                self.assert_refused(TooGreat, read, text, names)

    def test_powers_that_17_refuses(self):
        names = {
            "parts": broad(24), "more": broad(25), "sixty": ((ONE, 10 ** 60 - 1), ((), 1)), "longer": ((ONE, 10 ** 60), ((), 1)),
            "n": (((), 10 ** 60),), "low": ((ONE, 1), ((), 10 ** 60)), "single": ((ONE, 10 ** 60),),
        }
        table = [
            ("2^24", "2^25"), ("(w+1)^24", "(w+1)^25"), ("2^(w+24)", "2^(w+25)"), ("(w+1)^(w+24)", "(w+1)^(w+25)"),
            ("parts^1", "more^1"), ("sixty^1", "longer^1"), ("parts^w", "more^w"), ("sixty^w", "longer^w"),
            ("(w+9)^w", "low^w"), ("9^w", "n^w"), ("single^25", "n^1"), ("more^0", "more^w"), ("n^0", "n^2"), ("1^n", "2^n"),
            ("w^25", "(w+1)^25"), ("(w*2)^25", "(w*2+1)^25"), ("(w^w*2)^(w*3+99)", "(w^w*2+1)^(w*3+99)"), ("0^25", "3^25"),
            ("w^1" + "0" * 59, "2^1" + "0" * 59),
        ]
        for good, bad in table:
            with self.subTest(good=good, bad=bad):
                self.assertEqual(read(good, names), value_of(good, names))
                self.assert_refused(TooGreat, read, bad, names)
        self.assertEqual(read("(w+1)^24"), power(number("w+1"), number("24")))

    def test_every_kind_of_refusal_among_what_comes(self):
        chance = random.Random(36)
        names = {"x": parts(150), "n": figures(200), "t": tower(36), "a": number("w^2+w*3+4")}
        met = {True: 0, False: 0}
        for step in range(1500):
            text = some_expression(chance, chance.randrange(2, 8), list(names))
            try:
                expected = value_of(text, names)
            except TooGreat:
                met[False] += 1
                self.assert_refused(TooGreat, read, text, names)
            else:
                met[True] += 1
                self.assertEqual(read(text, names), expected, text)
        self.assertGreater(min(met.values()), 200)


def parts(many):
    # so many parts, and no 1 among them: each has one part as its exponent
    return broad(many + 1)[:-1]


def balanced(text):
    # whether a text of brackets is a tree's: the root is closed by the last bracket, not ahead of it
    within = list(itertools.accumulate(1 if sign == "(" else -1 for sign in text))
    return within != [] and within[-1] == 0 and all(depth > 0 for depth in within[:-1])


class Trees(Case):
    def test_written_out(self):
        table = [
            (BARE, "()"), ((BARE,), "(())"), (star(2), "(()())"), (stick(2), "((()))"), (((), ((), ((),))), "(()(()(())))"),
            ((((), ()), ()), "((()())())"), (((), ((), ())), "(()(()()))"),
        ]
        for tree, text in table:
            with self.subTest(text=text):
                self.assertEqual(tree_shown(tree), text)
                self.assertIs(tree_shown(tree).__class__, str)
                self.assertEqual(tree_read(text), tree)

    def test_shown_and_read_again(self):
        for tree in TREES + MORE:
            text = tree_shown(tree)
            self.assertEqual(text, repr(tree).replace(",", "").replace(" ", ""))
            found = tree_read(text)
            self.assertEqual(found, tree)
            self.assertEqual(repr(found), repr(tree))

    def test_all_short_texts(self):
        met = 0
        for size in range(13):
            for signs in itertools.product("()", repeat=size):
                text = "".join(signs)
                if balanced(text):
                    met += 1
                    self.assertEqual(tree_shown(tree_read(text)), text)
                else:
                    with self.assertRaises(NoText, msg=text):
                        tree_read(text)
        self.assertEqual(met, 1 + 1 + 2 + 5 + 14 + 42)

    def test_no_text(self):
        table = [
            "", " ", "(", ")", ")(", "()()", "()(", "())", "(()", "(()))", "((())", "(()())()", "()(())", " ()", "() ", "( )",
            "()\n", "\n()", "(\n)", "(\t)", "(),()", "(0)", "0", "w", "(w)", "[]", "{}", "<>", "((),)", "(())w", "1()",
            "()0", "(()))(", "())(()", "None", "(0", "(w", "(()x", "(]", "((()]", "( ", "(\n", "(()\t", "x)", "0)", "()" * 300, ")" * 1000, "(" * 1000, "x" * 100000, "()" + ")" * 100000,
        ]
        for text in table:
            with self.subTest(text=text[:80]):
                self.assert_refused(NoText, tree_read, text)

    def test_no_text_of_any_kind(self):
        for thing in NO_TEXTS + [((),), ("(", ")"), ["(", ")"], [[]], ["()"]]:
            with self.subTest(thing=str(thing)[:80]):
                self.assert_refused(NoText, tree_read, thing)

    def test_600_and_601_points(self):
        shapes = [
            ("(" + "()" * 599 + ")", "(" + "()" * 600 + ")"),
            ("(" + "(()())" * 199 + "(())" + ")", "(" + "(()())" * 200 + ")"),
            ("(" * 30 + "()" * 570 + ")" * 30, "(" * 30 + "()" * 571 + ")" * 30),
        ]
        for good, bad in shapes:
            self.assertEqual(good.count("("), 600)
            self.assertEqual(bad.count("("), 601)
            self.assertEqual(tree_shown(tree_read(good)), good)
            self.assert_refused(NoText, tree_read, bad)
        self.assert_refused(NoText, tree_read, "(" + "()" * 100000 + ")")

    def test_40_and_41_deep(self):
        self.assertEqual(tree_read("(" * 41 + ")" * 41), stick(40))
        self.assertEqual(tree_shown(stick(40)), "(" * 41 + ")" * 41)
        self.assert_refused(NoText, tree_read, "(" * 42 + ")" * 42)
        for ahead, behind in [("()", ""), ("", "()"), ("(())", "(()())")]:
            good = "(" + ahead + "(" * 40 + ")" * 40 + behind + ")"
            bad = "(" + ahead + "(" * 41 + ")" * 41 + behind + ")"
            self.assertEqual(tree_shown(tree_read(good)), good)
            self.assert_refused(NoText, tree_read, bad)
        self.assert_refused(NoText, tree_read, "(" * 300 + ")" * 300)
        self.assert_refused(NoText, tree_read, "(" * 600 + ")" * 600)

    def test_what_is_handed_in_is_not_changed(self):
        self.assert_unchanged(tree_shown, MORE[0])
        self.assert_unchanged(tree_read, "(()(()))")


if __name__ == "__main__":
    unittest.main()
