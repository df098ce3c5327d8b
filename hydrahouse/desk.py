"""A desk that keeps numbers by names, and answers rows of words."""

from hydrahouse.bases import down, worth, written
from hydrahouse.errors import NoName, NoNumber, NoRow, NoText
from hydrahouse.forms import compare
from hydrahouse.ladders import ladder, rung
from hydrahouse.products import divided
from hydrahouse.readings import is_figures, is_name
from hydrahouse.sums import common, minus
from hydrahouse.texts import read, shown, tree_read, tree_shown
from hydrahouse.trees import cut, number_of


def new_name(word, kept):
    if not is_name(word):
        raise NoText("this is no name")
    return word


def kept_name(word, kept):
    if word not in kept:
        raise NoName("no number is kept by this name")
    return word


def expression(word, kept):
    return read(word, kept)


def whole_number(word, kept):
    if not is_figures(word):
        raise NoText("this is no whole number")
    return int(word)


def tree_told(word, kept):
    return tree_read(word)


def way_told(word, kept):
    return tuple([whole_number(place, kept) for place in word.split(".")])


# How the words behind a first word are read. A base is read as any whole number is: that it is too small
# counts only when all words are read.
READERS = {
    "NAME": new_name, "KEPT": kept_name, "EXPR": expression, "N": whole_number, "BASE": whole_number,
    "TREE": tree_told, "WAY": way_told,
}
FORMS = {
    "let": ("NAME", "EXPR"), "tell": ("EXPR",), "drop": ("KEPT",), "hold": ("EXPR", "EXPR"),
    "minus": ("EXPR", "EXPR"), "share": ("EXPR", "EXPR"), "common": ("EXPR", "EXPR"), "rung": ("EXPR", "EXPR"),
    "step": ("EXPR", "N"), "tree": ("TREE",), "cut": ("TREE", "WAY", "N"), "write": ("N", "BASE"),
    "down": ("EXPR", "BASE"), "worth": ("EXPR", "BASE"),
}


def tell_number(things):
    # The last thing, as let has a name ahead of its number.
    return shown(things[-1])


def tell_dropped(things):
    return "ok"


def tell_order(things):
    order = compare(things[0], things[1])
    if order == 0:
        return "same"
    return "less" if order < 0 else "more"


def tell_minus(things):
    return shown(minus(things[0], things[1]))


def tell_share(things):
    return " ".join([shown(a) for a in divided(things[0], things[1])])


def tell_common(things):
    found = common(things[0], things[1])
    if found is None:
        return "none"
    return " ".join([shown(found[0]), str(found[1]), str(found[2])])


def tell_rung(things):
    return str(rung(things[0], things[1]))


def tell_step(things):
    return shown(ladder(things[0], things[1]))


def tell_tree(things):
    return shown(number_of(things[0]))


def tell_cut(things):
    tree = cut(things[0], things[1], things[2])
    return " ".join([tree_shown(tree), shown(number_of(tree))])


def tell_written(things):
    return shown(written(things[0], things[1]))


def tell_down(things):
    return shown(down(things[0], things[1]))


def tell_worth(things):
    return str(worth(things[0], things[1]))


DEEDS = {
    "let": tell_number, "tell": tell_number, "drop": tell_dropped, "hold": tell_order, "minus": tell_minus,
    "share": tell_share, "common": tell_common, "rung": tell_rung, "step": tell_step, "tree": tell_tree,
    "cut": tell_cut, "write": tell_written, "down": tell_down, "worth": tell_worth,
}


def words_of(row):
    if not isinstance(row, str):
        raise NoRow("a row is a text")
    words = row.split(" ")
    # Two blanks together, or one at an end, leave an empty word.
    if "" in words or words[0] not in FORMS or len(words) != len(FORMS[words[0]]) + 1:
        raise NoRow("there is no such row of words")
    return words


def things_of(words, kept):
    found = []
    for form, word in zip(FORMS[words[0]], words[1:]):
        reader = READERS[form]
        found.append(reader(word, kept))
    for form, thing in zip(FORMS[words[0]], found):
        if form == "BASE" and thing < 2:
            raise NoNumber("a base is a whole number from 2 on")
    return found


class Desk:
    def __init__(self):
        self.kept = {}

    def say(self, row):
        words = words_of(row)
        things = things_of(words, self.kept)
        deed = DEEDS[words[0]]
        answer = deed(things)
        # Only now, as what is refused changes nothing.
        if words[0] == "let":
            self.kept[things[0]] = things[1]
        if words[0] == "drop":
            self.kept.pop(things[0])
        return answer
