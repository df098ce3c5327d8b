"""Expressions for the tests: which texts are some, and what they come to, told by Python's own reading of them."""

import re

from hydrahouse.errors import TooGreat
from hydrahouse.forms import deep, greatest, parts_in_all
from hydrahouse.powers import power
from hydrahouse.products import times
from hydrahouse.sums import plus
from samples import W

THING = r"(?:0|[1-9][0-9]{0,59}|[a-z]{1,8})"
POWER = r"T(?:\^T)?"
PRODUCT = rf"{POWER}(?:\*{POWER})*"
SUM = rf"{PRODUCT}(?:\+{PRODUCT})*"


def is_expression(text):
    # Things become T, and sums of them in brackets become T again, from the inmost brackets on.
    if len(text) > 2000 or re.search(r"[^0-9a-z+*^()]", text):
        return False
    words = re.split(r"([+*^()])", text)
    left = "".join("T" if re.fullmatch(THING, word) else word for word in words)
    if re.search(r"[0-9a-z]", left) or "" in [left, text]:
        return False
    for depth in range(20):
        left = re.sub(rf"\({SUM}\)", "T", left)
    return re.fullmatch(SUM, left) is not None


class Reckoned:
    # A number under Python's own signs: it puts sums, products and powers together from the left, as 35 does.
    def __init__(self, number):
        self.number = number

    def __add__(self, other):
        return bounded(plus(self.number, other.number))

    def __mul__(self, other):
        return bounded(times(self.number, other.number))

    def __pow__(self, other):
        return bounded(power(self.number, other.number))


def bounded(number):
    if parts_in_all(number) > 400 or greatest(number) >= 10 ** 300 or deep(number) > 40:
        raise TooGreat("by the words of 35")
    return Reckoned(number)


def value_of(text, names):
    # what an expression comes to whose names are all known
    known = {"W": Reckoned(W)}
    words = re.split(r"([+*^()])", text)
    for place, word in enumerate(words):
        if word.isdigit():
            known[f"N{place}"] = Reckoned((((), int(word)),) if word != "0" else ())
            words[place] = f"N{place}"
        elif word == "w":
            words[place] = "W"
        elif word.isalpha():
            known[f"N{place}"] = Reckoned(names[word])
            words[place] = f"N{place}"
        elif word == "^":
            words[place] = "**"
    return eval("".join(words), known).number


def some_expression(chance, size, names):
    # a text of an expression, more brackets than need be among it
    if size <= 1:
        return chance.choice(["0", "1", "2", "3", "25", "w", "w", "w", "w"] + names)
    ahead = chance.randrange(1, size)
    first = some_expression(chance, ahead, names)
    second = some_expression(chance, size - ahead, names)
    sign = chance.choice("++**^")
    if sign == "^" or chance.random() < 0.3:
        first = as_thing(first)
    if sign == "^" or chance.random() < 0.3:
        second = as_thing(second)
    if sign == "*":
        first = first if "+" not in first else f"({first})"
    return f"{first}{sign}{second}"


def as_thing(text):
    return text if re.fullmatch("[0-9a-z]+", text) else f"({text})"
