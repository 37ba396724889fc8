"""Points 124 and 125: the tokens of texts, their columns and their problems."""

import random
import string
import unittest

from samples import ODD_KINDS
from texts import pieces, token_problem
from wishshapes.errors import BadValue, TextError, WishError
from wishshapes.scanning import scan


class TestTokens(unittest.TestCase):
    def test_numbers_and_signs(self):
        self.assertEqual(scan("4: 0-1 1"), [("number", "4", 1), ("sign", ":", 2), ("number", "0", 4), ("sign", "-", 5),
                                            ("number", "1", 6), ("number", "1", 8), ("end", "", 9)])
        for sign in ":-,;/":
            self.assertEqual(scan(sign), [("sign", sign, 1), ("end", "", 2)])
        self.assertEqual([token[1] for token in scan(":-,;/;;:--")], [*":-,;/;;:--", ""])

    def test_the_empty_text_and_blanks(self):
        self.assertEqual(scan(""), [("end", "", 1)])
        self.assertEqual(scan(" "), [("end", "", 2)])
        self.assertEqual(scan("     "), [("end", "", 6)])

    def test_blanks_ahead_between_and_behind(self):
        self.assertEqual(scan("  7  , 12   "),
                         [("number", "7", 3), ("sign", ",", 6), ("number", "12", 8), ("end", "", 13)])
        self.assertEqual(scan("1 2"), [("number", "1", 1), ("number", "2", 3), ("end", "", 4)])
        self.assertEqual(scan("12"), [("number", "12", 1), ("end", "", 3)])

    def test_a_number_is_as_long_as_possible(self):
        self.assertEqual(scan("123456"), [("number", "123456", 1), ("end", "", 7)])
        self.assertEqual(scan("000000"), [("number", "000000", 1), ("end", "", 7)])
        self.assertEqual(scan("007-010"), [("number", "007", 1), ("sign", "-", 4), ("number", "010", 5),
                                           ("end", "", 8)])
        self.assertEqual(scan("123456 123456/99"), [("number", "123456", 1), ("number", "123456", 8), ("sign", "/", 14),
                                                    ("number", "99", 15), ("end", "", 17)])
        for digit in "0123456789":
            self.assertEqual(scan(digit), [("number", digit, 1), ("end", "", 2)])

    def test_drawn_texts(self):
        chance = random.Random(120)
        for _ in range(400):
            text = "".join(chance.choice("0123456789  :-,;/") for _ in range(chance.randint(0, 40)))
            if token_problem(text) is None:
                wanted = [("number" if part[0].isdigit() else "sign", part, column) for part, column in pieces(text)]
                self.assertEqual(scan(text), wanted + [("end", "", len(text) + 1)])

    def test_forms(self):
        found = scan("4: 0")
        self.assertIs(type(found), list)
        for token in found:
            self.assertEqual([type(part) for part in token], [str, str, int])
            self.assertIs(type(token), tuple)

    def test_a_list_that_is_changed_changes_no_later_answer(self):
        first = scan("4:")
        first.append(None)
        first[0] = ("sign", "4", 9)
        self.assertEqual(scan("4:"), [("number", "4", 1), ("sign", ":", 2), ("end", "", 3)])
        self.assertEqual(scan("4:"), scan("".join(["4", ":"])))

    def test_as_many_characters_as_are_let(self):
        self.assertEqual(scan(" " * 1500), [("end", "", 1501)])
        self.assertEqual(len(scan(":" * 1500)), 1501)
        self.assertEqual(scan(" " * 1499 + "8"), [("number", "8", 1500), ("end", "", 1501)])


class TestProblems(unittest.TestCase):
    def fails(self, text, column, words):
        with self.subTest(text=text):
            with self.assertRaises(TextError) as caught:
                scan(text)
            self.assertEqual((caught.exception.column, caught.exception.words), (column, words))
            self.assertIsInstance(caught.exception, WishError)

    def test_characters_that_no_token_has(self):
        others = set(map(chr, range(0x250))) - set("0123456789:-,;/ \n")
        others |= {"\u0663", "\uff11", "\u00b2", "\u2460", "\u2003", "\u2028", "\u0085", "\U0001d7d8", "\u2212",
                   "\uff0c"}
        self.assertTrue({"\t", "\r", "\x0b", "\x0c", "\x1c", "\x85", "\xa0", "a", "Z", "_", ".", "+", "\x00",
                         "\u00b2"} <= others)
        for sign in sorted(others):
            self.fails(sign, 1, "no token begins here")
            self.fails("4: " + sign, 4, "no token begins here")
            self.fails("12" + sign + "3", 3, "no token begins here")
        for letter in string.ascii_letters:
            self.fails(" 1-" + letter, 4, "no token begins here")

    def test_numbers_of_seven_digits(self):
        self.fails("1234567", 1, "a number has at most 6 digits")
        self.fails("0000001", 1, "a number has at most 6 digits")
        self.fails("  4: 0-1 10000000000", 10, "a number has at most 6 digits")
        self.fails("123456 1234567", 8, "a number has at most 6 digits")
        self.fails("1" * 1500, 1, "a number has at most 6 digits")

    def test_the_first_problem_from_the_left(self):
        self.fails("1234567 x", 1, "a number has at most 6 digits")
        self.fails("x 1234567", 1, "no token begins here")
        self.fails("1234567x", 1, "a number has at most 6 digits")
        self.fails(": 1 . 1234567 x", 5, "no token begins here")
        self.fails("a b", 1, "no token begins here")
        self.fails(" \t", 2, "no token begins here")

    def test_drawn_texts(self):
        chance, many = random.Random(121), 0
        for _ in range(600):
            text = "".join(chance.choice("01 :-,;/" * 3 + "x.\t") for _ in range(chance.randint(0, 30)))
            text += "0123456789"[:chance.choice((0, 0, 6, 7))]
            problem = token_problem(text)
            if problem:
                self.fails(text, *problem)
                many += 1
        self.assertGreater(many, 200)

    def test_what_is_no_text(self):
        wrong = ["\n", "4:\n", "\n4:", "4:\n0-1 1", " " * 1501, "x" * 1501, "1" * 1501, "x\n", "1234567\n",
                 " " * 1500 + "\n"]
        wrong += [kind for kind in ODD_KINDS if type(kind) is not str]
        for text in wrong:
            with self.assertRaises(BadValue) as caught:
                scan(text)
            self.assertEqual(caught.exception.name, "text")

    def test_other_line_ends_are_no_newlines(self):
        for sign in ("\r", "\x0b", "\x0c", "\u2028", "\u2029", "\x85"):
            self.fails("1" + sign, 2, "no token begins here")


if __name__ == "__main__":
    unittest.main()
