"""How a text is read as a number: its signs first, then its names, and only then is it reckoned."""

from hydrahouse.errors import NoName, NoText, TooGreat
from hydrahouse.forms import deep, endless, greatest, whole
from hydrahouse.powers import power
from hydrahouse.products import times
from hydrahouse.sums import plus

MOST_SIGNS = 2000
MOST_FIGURES = 60
MOST_LETTERS = 8
MOST_BRACKETS = 20
MOST_PARTS = 400
MOST_DEEP = 40
JOINING = ("+", "*", "^")


def is_figure(sign):
    return "0" <= sign <= "9"


def is_letter(sign):
    return "a" <= sign <= "z"


def is_figures(text):
    if not 1 <= len(text) <= MOST_FIGURES or not all([is_figure(sign) for sign in text]):
        return False
    return text == "0" or text[0] != "0"


def is_name(text):
    if not 1 <= len(text) <= MOST_LETTERS or text == "w":
        return False
    return all([is_letter(sign) for sign in text])


def thing_of(word):
    if word == "w":
        return endless()
    if is_figures(word):
        return whole(int(word))
    if is_name(word):
        return word
    raise NoText("it holds what is no whole number, no w and no name")


# Goes along a text and puts down the steps by which it is reckoned: numbers and names as they are met,
# and behind the two things that it joins each joining sign.
class Reading:
    def __init__(self, text):
        self.text = text
        self.place = 0
        self.steps = []

    def read_sum(self, within):
        self.read_product(within)
        while self.pass_by("+"):
            self.read_product(within)
            self.steps.append("+")

    def read_product(self, within):
        self.read_power(within)
        while self.pass_by("*"):
            self.read_power(within)
            self.steps.append("*")

    def read_power(self, within):
        self.read_thing(within)
        # Once only: what a power of a power would mean without brackets is not told.
        if self.pass_by("^"):
            self.read_thing(within)
            self.steps.append("^")

    def read_thing(self, within):
        if not self.pass_by("("):
            self.steps.append(thing_of(self.word()))
            return
        if within == MOST_BRACKETS:
            raise NoText("its brackets are too deep")
        self.read_sum(within + 1)
        if not self.pass_by(")"):
            raise NoText("a bracket in it is not closed")

    def word(self):
        first = self.place
        while is_figure(self.sign()) or is_letter(self.sign()):
            self.place = self.place + 1
        return self.text[first:self.place]

    def pass_by(self, sign):
        if self.sign() != sign:
            return False
        self.place = self.place + 1
        return True

    def sign(self):
        return self.text[self.place:self.place + 1]


def steps_of(text):
    if not isinstance(text, str) or len(text) > MOST_SIGNS:
        raise NoText("a text is asked for that is not too long")
    reading = Reading(text)
    reading.read_sum(0)
    if reading.sign() != "":
        raise NoText("something stands in it that is not read")
    return reading.steps


def looked_up(steps, names):
    found = []
    for step in steps:
        if isinstance(step, tuple) or step in JOINING:
            found.append(step)
        elif step in names:
            found.append(names[step])
        else:
            raise NoName("a name in it names no number")
    return found


def reckoned(steps):
    left = []
    for step in steps:
        if isinstance(step, tuple):
            left.append(step)
        else:
            second = left.pop()
            first = left.pop()
            left.append(joined(first, step, second))
    return left[0]


def joined(first, sign, second):
    if sign == "+":
        found = plus(first, second)
    elif sign == "*":
        found = times(first, second)
    else:
        found = power(first, second)
    if is_too_great(found):
        raise TooGreat("on the way a number comes that is too great")
    return found


def is_too_great(a):
    # The parts are counted first, and no further than need be: there may be very many of them.
    return has_many_parts(a) or greatest(a) >= (10 ** 60) ** 5 or deep(a) > MOST_DEEP


def has_many_parts(a):
    many = 0
    left = [a]
    while left != [] and many <= MOST_PARTS:
        number = left.pop()
        many = many + len(number)
        left.extend([part[0] for part in number])
    return many > MOST_PARTS
