import copy
import unittest

from sackloads.desk import Desk
from sackloads.errors import NoLine, NoNumber, SackError, TooMany
from sackloads.full import filled
from sackloads.shares import share_worth, whole_bound
from sackloads.tables import best_load, best_worth, least_weight, loads_many
from sackloads.texts import read, show
from tests.plain import all_best, all_lightest, all_that_fill, all_that_fit, best_of, shares_worth_of
from tests.things import BIG, STORE, TWELVE, odd_things
from tests.told import Told

CHANGES = ["kind 3 5 2", "drop 0", "room 7"]
ASKED = ["store", "bears", "best", "load", "many", "shares", "bound", "full", "needs 5"]
LINES = CHANGES + ["back"] + ASKED
THIRTY = "9" * 30
THIRTY_ONE = "1" + "0" * 30


def desk_told(*lines):
    desk = Desk()
    for line in lines:
        desk.say(line)
    return desk


def kind_line(kind):
    weight, worth, most = kind
    return f"kind {weight} {worth} {'end' if most is None else most}"


def desk_with(store, room=0):
    return desk_told(f"room {room}", *[kind_line(kind) for kind in store])


def all_answers(desk):
    """What a desk tells when asked, refusals by the name of their class."""
    answers = []
    for line in ASKED + ["needs 0", "needs 200", "needs 201"]:
        try:
            answers.append(desk.say(line))
        except SackError as error:
            answers.append(error.__class__.__name__)
    return answers


class DeskTold(Told):
    def says(self, desk, line, wanted):
        with self.subTest(line=line):
            self.same(desk.say(line), wanted)

    def refuses(self, desk, wanted, line):
        with self.subTest(line=line):
            kept = copy.deepcopy(line)
            with self.assertRaises(SackError) as caught:
                desk.say(line)
            self.assertIs(caught.exception.__class__, wanted)
            self.same(line, kept)


class NewDesk(DeskTold):
    def test_without_kinds_and_with_the_room_0(self):
        desk = Desk()
        for line, wanted in [
            ("store", "none"), ("bears", "0"), ("best", "0"), ("load", "none"), ("many", "1"), ("shares", "0/1"),
            ("bound", "0"), ("full", "yes"), ("needs 0", "0"), ("needs 1", "never"), ("needs 200", "never"),
        ]:
            self.says(desk, line, wanted)

    def test_refused_at_first(self):
        desk = Desk()
        self.refuses(desk, NoNumber, "back")
        for line in ["drop 0", "drop 1", "drop " + THIRTY]:
            self.refuses(desk, NoNumber, line)
        self.refuses(desk, TooMany, "needs 201")


class Changes(DeskTold):
    def test_kind(self):
        desk = Desk()
        self.says(desk, "kind 3 5 2", "1")
        self.says(desk, "store", "3/5*2")
        self.says(desk, "kind 1 0 end", "2")
        self.says(desk, "kind 4 7 0", "3")
        self.says(desk, "store", "3/5*2 1/0* 4/7*0")
        self.says(desk, "kind 3 5 2", "4")
        self.says(desk, f"kind {THIRTY} {THIRTY} {THIRTY}", "5")
        self.says(desk, f"kind {THIRTY} 0 end", "6")
        self.says(desk, "store", f"3/5*2 1/0* 4/7*0 3/5*2 {THIRTY}/{THIRTY}*{THIRTY} {THIRTY}/0*")

    def test_a_twelfth_and_a_thirteenth(self):
        desk = desk_with(TWELVE[:11])
        self.says(desk, "kind 12 11 11", "12")
        self.says(desk, "store", show(TWELVE))
        for line in ["kind 1 1 1", "kind 1 1 end", "kind 12 11 11"]:
            self.refuses(desk, TooMany, line)
        for line in ["kind 0 1 1", "kind 1 1", "kind 1 1 1 1", "kind 01 1 1", "kind 1 1 End"]:
            self.refuses(desk, NoLine, line)
        self.says(desk, "store", show(TWELVE))
        self.says(desk, "drop 0", "11")
        self.says(desk, "kind 1 1 1", "12")

    def test_drop(self):
        desk = desk_with(STORE)
        self.says(desk, "drop 1", "2")
        self.says(desk, "store", "3/5*2 4/7*0")
        for line in ["drop 2", "drop 3", "drop 12", "drop " + THIRTY]:
            self.refuses(desk, NoNumber, line)
        self.says(desk, "drop 1", "1")
        self.says(desk, "drop 0", "0")
        self.says(desk, "store", "none")
        self.refuses(desk, NoNumber, "drop 0")

    def test_room(self):
        desk = Desk()
        for number in ["7", "0", "200", "201", THIRTY, "1" + "0" * 29]:
            self.says(desk, "room " + number, "ok")
            self.says(desk, "bears", number)
        self.says(desk, "store", "none")


class Back(DeskTold):
    def test_behind_each_of_the_three(self):
        for line in CHANGES:
            desk = desk_with(STORE, 9)
            before = all_answers(desk)
            desk.say(line)
            self.assertNotEqual(all_answers(desk), before)
            self.says(desk, "back", "ok")
            self.same(all_answers(desk), before)

    def test_several_times(self):
        desk = Desk()
        states = []
        lines = ["kind 3 5 2", "room 9", "kind 2 2 end", "room 9", "room 30", "drop 0", "kind 1 9 0", "drop 1", "drop 0"]
        for line in lines:
            states.append(all_answers(desk))
            desk.say(line)
        for state in reversed(states):
            self.says(desk, "back", "ok")
            self.same(all_answers(desk), state)
        for turn in range(3):
            self.refuses(desk, NoNumber, "back")
            self.same(all_answers(desk), all_answers(Desk()))

    def test_the_last_that_stands(self):
        desk = desk_told("room 3", "room 4", "back", "room 5", "back", "kind 2 2 2")
        self.says(desk, "back", "ok")
        self.says(desk, "store", "none")
        self.says(desk, "bears", "3")
        self.says(desk, "back", "ok")
        self.says(desk, "bears", "0")
        self.refuses(desk, NoNumber, "back")

    def test_what_was_refused_or_asked_does_not_stand(self):
        desk = desk_told("room 3", "kind 2 2 2")
        for line in ASKED:
            desk.say(line)
        for line, wanted in [("drop 1", NoNumber), ("room 03", NoLine), ("kind 0 1 1", NoLine), ("needs 201", TooMany)]:
            self.refuses(desk, wanted, line)
        self.says(desk, "back", "ok")
        self.says(desk, "store", "none")
        self.says(desk, "bears", "3")
        twelve = desk_with(TWELVE)
        self.refuses(twelve, TooMany, "kind 1 1 1")
        self.says(twelve, "back", "ok")
        self.says(twelve, "store", show(TWELVE[:11]))

    def test_the_same_room_again_stands_too(self):
        desk = desk_told("room 3", "room 3", "room 3")
        for wanted in ["3", "3", "0"]:
            self.says(desk, "back", "ok")
            self.says(desk, "bears", wanted)
        self.refuses(desk, NoNumber, "back")


class Asked(DeskTold):
    def test_against_all_loads(self):
        for store in [(), STORE, ((2, 3, None), (5, 8, 1)), ((2, 3, 1), (2, 3, 1)), ((1, 0, 2),), ((3, 4, 0),)]:
            for room in range(9):
                desk = desk_with(store, room)
                self.says(desk, "store", show(store) or "none")
                self.says(desk, "bears", str(room))
                self.says(desk, "best", str(best_of(store, room)))
                first = min(all_best(store, room))
                self.says(desk, "load", " ".join(str(times) for times in first) or "none")
                self.says(desk, "many", str(len(all_that_fit(store, room))))
                shares = shares_worth_of(store, room)
                self.says(desk, "shares", f"{shares.numerator}/{shares.denominator}")
                self.says(desk, "bound", str(shares.numerator // shares.denominator))
                self.says(desk, "full", "yes" if all_that_fill(store, room) else "no")
                least = all_lightest(store, room)[0]
                self.says(desk, f"needs {room}", "never" if least is None else str(least))

    def test_some(self):
        desk = desk_told("kind 4 8 2", "kind 6 9 1", "kind 10 10 3", "room 11")
        for line, wanted in [
            ("best", "17"), ("load", "1 1 0"), ("many", "6"), ("shares", "41/2"), ("bound", "20"), ("full", "no"),
            ("needs 17", "10"), ("needs 55", "44"), ("needs 56", "never"), ("needs 0", "0"),
        ]:
            self.says(desk, line, wanted)
        self.says(desk, "room 10", "ok")
        self.says(desk, "full", "yes")

    def test_the_room_two_hundred_and_one(self):
        for store in [(), STORE, TWELVE]:
            desk = desk_with(store, 200)
            self.says(desk, "best", str(best_worth(store, 200)))
            self.says(desk, "load", " ".join(str(times) for times in best_load(store, 200)) or "none")
            self.says(desk, "many", str(loads_many(store, 200)))
            self.says(desk, "full", "yes" if filled(store, 200) else "no")
            for room in ["201", "1000", THIRTY]:
                desk.say("room " + room)
                for line in ["best", "load", "many", "full"]:
                    self.refuses(desk, TooMany, line)
                # The others are told whatever the room.
                top, bottom = share_worth(store, int(room))
                self.says(desk, "shares", f"{top}/{bottom}")
                self.says(desk, "bound", str(whole_bound(store, int(room))))
                self.says(desk, "bears", room)
                self.says(desk, "store", show(store) or "none")
                least = least_weight(store, 200)
                self.says(desk, "needs 200", "never" if least is None else str(least))
                for worth in ["201", "1000", THIRTY]:
                    self.refuses(desk, TooMany, "needs " + worth)

    def test_great_numbers(self):
        desk = desk_told(f"kind 1 {THIRTY} end", f"kind {THIRTY} {'8' * 30} {THIRTY}", "room 200")
        self.says(desk, "best", str(200 * BIG))
        self.says(desk, "load", "200 0")
        self.says(desk, "shares", f"{200 * BIG}/1")
        self.says(desk, "needs 200", "1")
        twelve = [(BIG - 2 * place, BIG - place * place, 1) for place in range(12)]
        top, bottom = share_worth(tuple(twelve), BIG)
        self.says(desk_with(twelve, BIG), "shares", f"{top}/{bottom}")

    def test_what_is_asked_changes_nothing(self):
        for store, room in [((), 0), (STORE, 9), (TWELVE, 200), (STORE, 201)]:
            desk = desk_with(store, room)
            first = all_answers(desk)
            for turn in range(3):
                self.same(all_answers(desk), first)
            self.same(all_answers(desk_with(store, room)), first)


class NoLines(DeskTold):
    def setUp(self):
        # One where each line would else be answered, and two where much of it would be refused.
        self.desks = [desk_with(STORE, 9), Desk(), desk_with(TWELVE, 201)]
        self.before = [all_answers(desk) for desk in self.desks]

    def tearDown(self):
        self.same([all_answers(desk) for desk in self.desks], self.before)
        self.says(self.desks[0], "back", "ok")
        self.says(self.desks[0], "store", show(STORE[:2]))
        self.refuses(self.desks[1], NoNumber, "back")
        self.says(self.desks[2], "back", "ok")
        self.says(self.desks[2], "store", show(TWELVE[:11]))

    def wrong(self, line):
        for desk in self.desks:
            self.refuses(desk, NoLine, line)

    def test_a_word_left_out_put_in_or_another_one(self):
        for line in LINES:
            words = line.split(" ")
            for at in range(len(words)):
                self.wrong(" ".join(words[:at] + words[at + 1:]))
                for word in ["1", "end", "store", "x", "0", "", "ok"]:
                    self.wrong(" ".join(words[:at] + [word] + words[at:]))
                for word in ["", "x", "-", "+", "*", "/", "one", "End", "None", "True", "1.0", "1e3", "1_0", "0x1", "-1"]:
                    self.wrong(" ".join(words[:at] + [word] + words[at + 1:]))
            self.wrong(line + " 1")
            self.wrong(line + " end")
            self.wrong("1 " + line)
        for word in ["kind", "drop", "room", "needs"]:
            self.wrong(word)
        for line in ["kind 1", "kind 1 2", "kind 1 2 3 4", "drop 0 0", "room 1 1", "needs 1 1", "store store"]:
            self.wrong(line)

    def test_a_blank_more(self):
        for line in LINES:
            self.wrong(" " + line)
            self.wrong(line + " ")
            for at, sign in enumerate(line):
                self.wrong(line[:at] + " " + line[at:])
            for blank in ["\n", "\t", "\r", "  "]:
                self.wrong(line + blank)
                self.wrong(blank + line)
                if " " in line:
                    self.wrong(line.replace(" ", blank))

    def test_a_great_letter(self):
        for line in LINES:
            self.wrong(line.upper())
            self.wrong(line[0].upper() + line[1:])
            self.wrong(line[:3] + line[3].upper() + line[4:])
        for word in ["End", "END", "eNd"]:
            self.wrong("kind 1 1 " + word)

    def test_numbers(self):
        wrong = ["00", "01", "007", "-1", "-0", "+1", THIRTY_ONE, "9" * 31, "9" * 2000, "0" * 30, "1/2", "1,0", "end", "a"]
        for number in wrong:
            for line in ["kind N 1 1", "kind 1 N 1", "kind 1 1 N", "drop N", "room N", "needs N"]:
                if line != "kind 1 1 N" or number != "end":
                    self.wrong(line.replace("N", number))
        self.wrong("kind 0 1 1")
        self.wrong("kind 0 0 end")
        self.wrong("kind end 1 1")

    def test_numbers_of_thirty_figures(self):
        desk = Desk()
        self.says(desk, f"kind {THIRTY} {THIRTY} {THIRTY}", "1")
        self.says(desk, "room " + THIRTY, "ok")
        self.refuses(desk, NoNumber, "drop " + THIRTY)
        self.refuses(desk, TooMany, "needs " + THIRTY)

    def test_other_lines(self):
        for line in ["", " ", "x", "ok", "none", "end", "0", "say", "stores", "stor", "kinds 1 1 1", "kind,1,1,1", "3/5*2",
                     "back back", "back 1", "best 1", "store; bears", "store\nbears", "help", "needs never"]:
            self.wrong(line)

    def test_what_is_no_text(self):
        for thing in odd_things() + [0, 5, (), ("store",), ["store"], {"store": 1}, ["room", "7"], ("kind", 1, 1, 1)]:
            self.wrong(thing)


class TwoDesks(DeskTold):
    def test_they_have_nothing_in_common(self):
        one, other = Desk(), Desk()
        self.says(one, "kind 3 5 2", "1")
        self.says(other, "store", "none")
        self.says(other, "kind 7 1 end", "1")
        self.says(one, "room 9", "ok")
        self.says(other, "bears", "0")
        self.says(one, "kind 2 2 2", "2")
        self.says(other, "store", "7/1*")
        self.says(other, "back", "ok")
        self.says(one, "store", "3/5*2 2/2*2")
        self.refuses(other, NoNumber, "back")
        self.says(one, "back", "ok")
        self.says(one, "store", "3/5*2")
        self.says(one, "bears", "9")
        self.same(all_answers(other), all_answers(Desk()))

    def test_told_by_turns_each_is_like_one_told_alone(self):
        firsts = ["kind 3 5 2", "room 9", "kind 1 0 end", "drop 0", "back", "room 4", "back", "back", "kind 2 9 1"]
        seconds = ["room 5", "kind 9 9 9", "back", "kind 2 3 end", "kind 5 8 1", "room 30", "drop 1", "back", "room 12"]
        one, other = Desk(), Desk()
        for turn, (first, second) in enumerate(zip(firsts, seconds)):
            one.say(first)
            other.say(second)
            self.same(all_answers(one), all_answers(desk_told(*firsts[:turn + 1])))
            self.same(all_answers(other), all_answers(desk_told(*seconds[:turn + 1])))


class NothingIsChanged(DeskTold):
    def test_a_thing_that_was_handed_in_and_is_changed_later(self):
        desk = desk_with(STORE, 9)
        before = all_answers(desk)
        line = ["kind", 1, 1, 1]
        self.refuses(desk, NoLine, line)
        line.clear()
        self.same(all_answers(desk), before)


class WhatFollows(DeskTold):
    def test_it_agrees_with_the_functions(self):
        for store in [STORE, TWELVE, ((2, 3, None), (5, 8, 1), (7, 11, 2)), ((9, 50, 1), (10, 60, None), (11, 0, None))]:
            for room in [0, 5, 17, 60, 200]:
                desk = desk_with(store, room)
                self.same(read(desk.say("store")), store)
                self.same(desk.say("best"), str(best_worth(store, room)))
                self.same(tuple(int(word) for word in desk.say("load").split(" ")), best_load(store, room))
                self.same(desk.say("many"), str(loads_many(store, room)))
                self.same(tuple(int(word) for word in desk.say("shares").split("/")), share_worth(store, room))
                self.same(desk.say("bound"), str(whole_bound(store, room)))
                self.same(desk.say("full"), "yes" if filled(store, room) else "no")
                for worth in [0, 1, 20, 200]:
                    least = least_weight(store, worth)
                    self.same(desk.say(f"needs {worth}"), "never" if least is None else str(least))

    def test_with_more_room_or_one_kind_more_the_best_is_no_less(self):
        desk = desk_with(STORE, 0)
        best = 0
        for line in ["room 3", "kind 2 4 1", "room 8", "kind 1 0 end", "kind 9 1 0", "room 11", "kind 5 20 end", "room 90"]:
            desk.say(line)
            self.assertGreaterEqual(int(desk.say("best")), best)
            best = int(desk.say("best"))


if __name__ == "__main__":
    unittest.main()
