import copy
import itertools
import unittest

from sackloads.errors import NoStore, NoText
from sackloads.texts import read, show
from tests.things import BIG, STORE, TWELVE, no_stores, odd_things

HUGE = 7 * 10 ** 5000 + 3

WRITTEN = [
    ((), ""),
    (((3, 5, 2), (1, 0, None)), "3/5*2 1/0*"),
    (STORE, "3/5*2 1/0* 4/7*0"),
    (((1, 0, 0),), "1/0*0"),
    (((1, 0, None),), "1/0*"),
    (((10, 20, 30),), "10/20*30"),
    (((100, 7, 1), (100, 7, 1)), "100/7*1 100/7*1"),
    (TWELVE, "1/0*0 2/1*1 3/2*2 4/3*3 5/4*4 6/5*5 7/6*6 8/7*7 9/8*8 10/9*9 11/10*10 12/11*11"),
    (((BIG, BIG, BIG), (BIG, BIG, None)), f"{BIG}/{BIG}*{BIG} {BIG}/{BIG}*"),
    (((10 ** 29, 10 ** 29, 10 ** 29),), f"{10 ** 29}/{10 ** 29}*{10 ** 29}"),
]


class Show(unittest.TestCase):
    def test_written(self):
        for store, text in WRITTEN:
            with self.subTest(text=text):
                self.assertEqual(show(store), text)

    def test_no_store(self):
        for thing in no_stores():
            with self.subTest(thing=thing):
                kept = copy.deepcopy(thing)
                self.assertRaises(NoStore, show, thing)
                self.assertEqual(repr(thing), repr(kept))


class Read(unittest.TestCase):
    def refused(self, text, at):
        with self.subTest(text=text):
            with self.assertRaises(NoText) as caught:
                read(text)
            self.assertEqual(repr(caught.exception.at), repr(at))

    def test_written(self):
        for store, text in WRITTEN:
            with self.subTest(text=text):
                self.assertEqual(read(text), store)
                self.assertEqual(repr(read(text)), repr(store))

    def test_what_is_written_is_read_to_the_same(self):
        kinds = [(1, 0, None), (1, 0, 0), (20, 300, 4000), (BIG, BIG, 1), (7, 7, 7)]
        for many in range(4):
            for store in itertools.product(kinds, repeat=many):
                self.assertEqual(read(show(store)), store)

    def test_numbers_of_whatever_size(self):
        store = ((HUGE, HUGE + 1, HUGE + 2), (HUGE, 0, None))
        text = show(store)
        self.assertEqual(len(text), 4 * 5001 + 6)
        self.assertTrue(text.startswith("7000") and text.endswith("0003/0*"))
        self.assertEqual(read(text), store)

    def test_a_text_of_two_thousand_signs(self):
        figures = "9" * 1997
        self.assertEqual(read(figures + "/0*"), ((int(figures), 0, None),))

    def test_no_text(self):
        for thing in odd_things() + [0, 5, (), STORE, ["3/5*2"], ("3/5*2",), {"3/5*2": "1/0*"}]:
            if not isinstance(thing, str):
                kept = copy.deepcopy(thing)
                self.refused(thing, 0)
                self.assertEqual(repr(thing), repr(kept))

    def test_blanks(self):
        self.refused(" ", 0)
        self.refused("  ", 0)
        self.refused(" 3/5*2", 0)
        self.refused("3/5*2 ", 1)
        self.refused("3/5*2  1/0*", 1)
        self.refused("3/5*2 1/0*  4/7*0", 2)
        self.refused("3/5*2 1/0* 4/7*0 ", 3)
        self.refused("3/5*2\t1/0*", 0)
        self.refused("3/5*2\n", 0)
        self.refused("3/5*2 1/0*\n", 1)
        self.refused("\n", 0)

    def test_words_that_are_none(self):
        words = [
            "3", "3/5", "3*2", "3/*2", "/5*2", "/*", "*", "/", "3/5*2*", "3/5**2", "3/5/2", "3/5/2*1",
            "3*5/2", "3//5*2", "3/5*2/1", "0/5*2", "0/0*0", "0/5*", "-3/5*2", "3/-5*2", "3/5*-2", "+3/5*2", "3/+5*2", "3/5*+2",
            "03/5*2", "3/05*2", "3/5*02", "00/5*2", "3/00*2", "3/5*00", "3.0/5*2", "3/5*2.", "3/5*2,",
            "1_0/5*2", "3/1_0*2", "3/5*1_0", "3/5*None", "3/5*end", "a/5*2", "3/a*2", "3/5*a", "0x3/5*2",
            "1e3/5*2", "(3,", "True/5*2", "'3/5*2'",
            "3/5*2\n", "\n3/5*2", "3/\n5*2", "3\t/5*2", "none",
        ]
        for word in words:
            self.refused(word, 0)
            self.refused("3/5*2 " + word, 1)
            self.refused("3/5*2 1/0* " + word + " 4/7*0", 2)
            self.refused(" ".join(["3/5*2"] * 11 + [word]), 11)

    def test_the_first_such_word_is_told(self):
        self.refused("a b c", 0)
        self.refused("3/5*2 b c", 1)
        self.refused("3/5*2 b 3/5*2 c", 1)
        self.refused("3/5*2 03/5*2 ", 1)

    def test_a_thirteenth_word(self):
        self.assertEqual(read(" ".join(["3/5*2"] * 12)), ((3, 5, 2),) * 12)
        self.refused(" ".join(["3/5*2"] * 13), 12)
        self.refused(" ".join(["3/5*2"] * 20), 12)
        self.refused(" ".join(["3/5*2"] * 12) + " ", 12)
        self.refused(" ".join(["3/5*2"] * 12 + ["a"]), 12)
        self.refused(" ".join(["3/5*2"] * 13 + ["a"]), 12)
        self.refused(" ".join(["3/5*2"] * 5 + ["a"] + ["3/5*2"] * 10), 5)


if __name__ == "__main__":
    unittest.main()
