"""Stores written as texts, and read from them."""

from sackloads.errors import NoText
from sackloads.stores import KINDS_AT_MOST, MOST, WEIGHT, WORTH, is_kind, need_store

FIGURES = "0123456789"


def figures(number):
    # Figure by figure: Python's own str refuses numbers of some thousand figures.
    signs = [FIGURES[number % 10]]
    rest = number // 10
    while rest > 0:
        signs.append(FIGURES[rest % 10])
        rest = rest // 10
    return "".join(reversed(signs))


def is_figures(word):
    if word == "" or not all([sign in FIGURES for sign in word]):
        return False
    return word == "0" or word[0] != "0"


def number_of(word):
    # Figure by figure for the same reason as in figures.
    number = 0
    for sign in word:
        number = number * 10 + int(sign)
    return number


def show_kind(kind):
    most = "" if kind[MOST] is None else figures(kind[MOST])
    return figures(kind[WEIGHT]) + "/" + figures(kind[WORTH]) + "*" + most


def show(store):
    need_store(store)
    return " ".join([show_kind(kind) for kind in store])


def read_kind(word):
    front = word.partition("/")
    back = front[2].partition("*")
    if back[1] == "" or not is_figures(front[0]) or not is_figures(back[0]):
        return None
    if back[2] != "" and not is_figures(back[2]):
        return None
    most = None if back[2] == "" else number_of(back[2])
    kind = (number_of(front[0]), number_of(back[0]), most)
    return kind if is_kind(kind) else None


def read(text):
    if not isinstance(text, str):
        raise NoText(0)
    if text == "":
        return ()
    kinds = []
    for at, word in enumerate(text.split(" ")):
        kind = read_kind(word)
        if kind is None or at >= KINDS_AT_MOST:
            raise NoText(at)
        kinds.append(kind)
    return tuple(kinds)
