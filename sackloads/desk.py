"""A desk that keeps a store and a room, is told lines and answers with texts."""

from sackloads.changes import put_to, without
from sackloads.errors import NoLine, NoNumber
from sackloads.full import filled
from sackloads.shares import BOTTOM, TOP, share_worth, whole_bound
from sackloads.tables import best_load, best_worth, least_weight, loads_many
from sackloads.texts import figures, is_figures, number_of, show

FIGURES_AT_MOST = 30
WORDS_BEHIND = {
    "kind": ("from one on", "number", "number or end"), "drop": ("number",), "room": ("number",), "back": (),
    "store": (), "bears": (), "best": (), "load": (), "many": (), "shares": (), "bound": (), "full": (),
    "needs": ("number",),
}


def is_word(word, wanted):
    if wanted == "number or end" and word == "end":
        return True
    if not is_figures(word) or len(word) > FIGURES_AT_MOST:
        return False
    return wanted != "from one on" or word != "0"


def is_line(words):
    wanted = WORDS_BEHIND.get(words[0])
    if wanted is None or len(words) != len(wanted) + 1:
        return False
    return all([is_word(word, part) for word, part in zip(words[1:], wanted)])


def words_of(line):
    if not isinstance(line, str):
        raise NoLine("this is no text")
    words = line.split(" ")
    if not is_line(words):
        raise NoLine("this is no line that a desk is told")
    return words


def kind_of(words):
    most = None if words[3] == "end" else number_of(words[3])
    return (number_of(words[1]), number_of(words[2]), most)


def store_text(store):
    return "none" if store == () else show(store)


def load_text(load):
    return "none" if load == () else " ".join([figures(times) for times in load])


def fraction_text(fraction):
    return figures(fraction[TOP]) + "/" + figures(fraction[BOTTOM])


def weight_text(weight):
    return "never" if weight is None else figures(weight)


def best_text(word, store, room):
    if word == "best":
        return figures(best_worth(store, room))
    if word == "load":
        return load_text(best_load(store, room))
    return figures(loads_many(store, room))


def asked_text(words, store, room):
    if words[0] == "store":
        return store_text(store)
    if words[0] == "bears":
        return figures(room)
    if words[0] == "shares":
        return fraction_text(share_worth(store, room))
    if words[0] == "bound":
        return figures(whole_bound(store, room))
    if words[0] == "full":
        return "yes" if filled(store, room) else "no"
    if words[0] == "needs":
        return weight_text(least_weight(store, number_of(words[1])))
    return best_text(words[0], store, room)


class Desk:
    def __init__(self):
        self.store = ()
        self.room = 0
        self.past = []

    def say(self, line):
        words = words_of(line)
        if words[0] == "kind":
            return self.take_store(put_to(self.store, kind_of(words)))
        if words[0] == "drop":
            return self.take_store(without(self.store, number_of(words[1])))
        if words[0] == "room":
            return self.take_room(number_of(words[1]))
        if words[0] == "back":
            return self.go_back()
        return asked_text(words, self.store, self.room)

    def keep_past(self):
        self.past.append((self.store, self.room))

    def take_store(self, store):
        self.keep_past()
        self.store = store
        return figures(len(store))

    def take_room(self, room):
        self.keep_past()
        self.room = room
        return "ok"

    def go_back(self):
        if self.past == []:
            raise NoNumber("nothing stands that could be undone")
        before = self.past.pop()
        self.store = before[0]
        self.room = before[1]
        return "ok"
