"""Points 126 to 130, 132 and 133: what can come in texts, and what they say."""

import unittest
from itertools import combinations

from samples import ACROSS, FULL, RING, TEN, TWO_PARTS, met_tasks, tasks
from texts import (SIGNS, WORDS, beginnings, following, grammar_problem, listed, mangled, some_chance, spread,
                   task_problem, token_problem, ways_problem)
from wishshapes.errors import BadValue, TextError, WishError
from wishshapes.reading import next_tokens, read_task, read_ways
from wishshapes.writing import task_text, ways_text

PAIRS = list(combinations(range(7), 2))
FULL_TEXT = "7: " + ", ".join(f"{one}-{other} 1" for one, other in PAIRS[:15])
RING_TEXT = "4: 0-1 1, 0-3 1, 1-2 1, 2-3 1; 0-2 1, 1-3 1"
HALVES = "0: 0-1-2 1/2; 0: 0-3-2 1/2"


def as_text(letters):
    """Return a text with tokens of these kinds; numbers stand apart."""
    return "".join("3 " if letter == "n" else letter for letter in letters)


def problem_of(function, *arguments):
    """Return the column and the words of the problem, or None."""
    try:
        function(*arguments)
    except TextError as error:
        return error.column, error.words
    return None


class TextCase(unittest.TestCase):
    def fails(self, column, words, function, *arguments):
        with self.subTest(arguments=arguments):
            with self.assertRaises(TextError) as caught:
                function(*arguments)
            self.assertEqual((caught.exception.column, caught.exception.words), (column, words))
            self.assertIsInstance(caught.exception, WishError)


class TestNextTokens(TextCase):
    def test_examples(self):
        self.assertEqual(next_tokens("4: 0-1 1", "task"), ['","', '";"', "the end"])
        self.assertEqual(next_tokens("4:", "task"), ["a number", '";"', "the end"])
        self.assertEqual(next_tokens("0: 0-1", "ways"), ["a number", '"-"'])
        self.assertEqual(next_tokens("0: 0-1 1", "ways"), ['";"', '"/"', "the end"])

    def test_every_place_of_the_grammar(self):
        wanted = {
            "task": {"": ["a number"], "4": ['":"'], "4:": ["a number", '";"', "the end"], "4: 0": ['"-"'],
                     "4: 0-": ["a number"], "4: 0-1": ["a number"], "4: 0-1 1": ['","', '";"', "the end"],
                     "4: 0-1 1,": ["a number"], "4: 0-1 1;": ["a number"], "4:;": ["a number"], "4:; 0": ['"-"'],
                     "4:; 0-": ["a number"], "4:; 0-1": ["a number"], "4:; 0-1 1": ['","', "the end"],
                     "4: 0-1 1, 0-2 1; 0-1 1": ['","', "the end"], "4:; 0-1 1,": ["a number"]},
            "ways": {"": ["a number", "the end"], "0": ['":"'], "0:": ["a number"], "0: 0": ['"-"'],
                     "0: 0-": ["a number"],
                     "0: 0-1": ["a number", '"-"'], "0: 0-1-": ["a number"], "0: 0-1-2": ["a number", '"-"'],
                     "0: 0-1 1": ['";"', '"/"', "the end"], "0: 0-1 1/": ["a number"], "0: 0-1 1/2": ['";"', "the end"],
                     "0: 0-1 1;": ["a number"], "0: 0-1 1/2;": ["a number"], "0: 0-1 1; 0": ['":"']},
        }
        for kind, rows in wanted.items():
            for text, words in rows.items():
                self.assertEqual(next_tokens(text, kind), words)
                self.assertEqual(next_tokens("  " + text + "   ", kind), words)

    def test_all_beginnings(self):
        for kind in ("task", "ways"):
            for letters in beginnings(kind):
                if not letters.endswith("$"):
                    self.assertEqual(next_tokens(as_text(letters), kind), following(kind, letters))

    def test_each_token_that_cannot_come(self):
        for kind in ("task", "ways"):
            for letters in beginnings(kind):
                words = following(kind, letters)
                for letter in "n" + SIGNS:
                    if not letters.endswith("$") and WORDS[letter] not in words:
                        ahead = as_text(letters)
                        self.fails(len(ahead) + 2, listed(words), next_tokens, ahead + " " + as_text(letter), kind)

    def test_long_texts(self):
        self.assertEqual(next_tokens("4:" + "0-1 1," * 249, "task"), ["a number"])
        self.assertEqual(next_tokens("4:" + "0-1 1," * 249 + "0-", "task"), ["a number"])
        self.assertEqual(next_tokens("0:0" + "-1" * 748, "ways"), ["a number", '"-"'])
        self.assertEqual(next_tokens("0:0-1 1;" * 187, "ways"), ["a number"])

    def test_numbers_may_be_of_any_size(self):
        self.assertEqual(next_tokens("999999: 8-8 9", "task"), ['","', '";"', "the end"])
        self.assertEqual(next_tokens("999999: 000-8 0/0", "ways"), ['";"', "the end"])

    def test_problems_of_tokens_come_first(self):
        self.fails(5, "no token begins here", next_tokens, "1 1 x", "task")
        self.fails(5, "a number has at most 6 digits", next_tokens, "1 1 1234567", "ways")
        self.fails(3, 'expected ":"', next_tokens, "1 1", "task")
        self.fails(3, 'expected ":"', next_tokens, "1 1", "ways")

    def test_wrong_arguments(self):
        for text, kind, name in (("4:\n", "tasks", "text"), (" " * 1501, "task", "text"), (None, None, "text"),
                                 ("x", "tasks", "kind"), ("x", None, "kind"), ("", "", "kind"),
                                 ("4:", b"task", "kind")):
            with self.assertRaises(BadValue) as caught:
                next_tokens(text, kind)
            self.assertEqual(caught.exception.name, name)

    def test_a_list_that_is_changed_changes_no_later_answer(self):
        for text, kind in (("4:", "task"), ("", "ways"), ("0: 0-1", "ways")):
            found = next_tokens(text, kind)
            wanted = list(found)
            found.append("more")
            found[0] = None
            self.assertEqual(next_tokens(text, kind), wanted)
            self.assertIs(type(next_tokens(text, kind)), list)


class TestGrammar(TextCase):
    def test_words(self):
        for text, column, words in (
                ("", 1, "expected a number"), ("   ", 4, "expected a number"), (":", 1, "expected a number"),
                ("4", 2, 'expected ":"'), ("4 4", 3, 'expected ":"'), ("4 ", 3, 'expected ":"'),
                ("4;", 2, 'expected ":"'),
                ("4: :", 4, 'expected a number, ";" or the end'), ("4: 0", 5, 'expected "-"'),
                ("4: 0 1", 6, 'expected "-"'),
                ("4: 0-1", 7, "expected a number"), ("4: 0-1 1 1", 10, 'expected ",", ";" or the end'),
                ("4: 0-1-2", 7, "expected a number"), ("4: 0-1 1,", 10, "expected a number"),
                ("4: 0-1 1;", 10, "expected a number"), ("4:;", 4, "expected a number"),
                ("4:;;", 4, "expected a number"),
                ("4:; 0-1 1;", 10, 'expected "," or the end'), ("4:; 0-1 1/2", 10, 'expected "," or the end'),
                ("4:, 0-1 1", 3, 'expected a number, ";" or the end'),
                ("4: 0-1 1/2", 9, 'expected ",", ";" or the end')):
            self.fails(column, words, read_task, text)
        for text, column, words in (
                (";", 1, "expected a number or the end"), (": 0-1 1", 1, "expected a number or the end"),
                ("0", 2, 'expected ":"'), ("0:", 3, "expected a number"), ("0: 0", 5, 'expected "-"'),
                ("0: 0 1", 6, 'expected "-"'), ("0: 0-1", 7, 'expected a number or "-"'),
                ("0: 0-1-", 8, "expected a number"),
                ("0: 0-1;", 7, 'expected a number or "-"'), ("0: 0-1 1 2", 10, 'expected ";", "/" or the end'),
                ("0: 0-1 1,", 9, 'expected ";", "/" or the end'), ("0: 0-1 1/", 10, "expected a number"),
                ("0: 0-1 1/2/3", 11, 'expected ";" or the end'), ("0: 0-1 1/2 3", 12, 'expected ";" or the end'),
                ("0: 0-1 1;", 10, "expected a number"), ("0: 0-1 1; ;", 11, "expected a number")):
            self.fails(column, words, read_ways, RING, ACROSS, text)

    def test_problems_of_tokens_come_ahead_of_the_grammar(self):
        self.fails(9, "no token begins here", read_task, "; ; ; ; x")
        self.fails(3, "a number has at most 6 digits", read_task, "4 1234567 x")
        self.fails(6, "no token begins here", read_ways, RING, ACROSS, "9: 9 . 1")

    def test_the_grammar_comes_ahead_of_what_is_said(self):
        self.fails(13, 'expected ",", ";" or the end', read_task, "9: 9-8 0000 :")
        self.fails(10, "expected a number", read_task, "9: 0-0 7,")
        self.fails(14, 'expected ";" or the end', read_ways, RING, ACROSS, "9: 9-9-9 0/0 1")

    def test_drawn_sequences(self):
        chance = some_chance(130)
        for _ in range(500):
            text = "".join(chance.choice(["1", " ", "0", *SIGNS]) for _ in range(chance.randint(0, 9)))
            if token_problem(text) is None:
                for kind, arguments in (("task", (read_task, text)), ("ways", (read_ways, RING, ACROSS, text))):
                    problem = grammar_problem(kind, text)
                    if problem:
                        self.fails(*problem, *arguments)


class TestReadTask(TextCase):
    def test_examples(self):
        self.assertEqual(read_task("3: 0-1 2, 1-2 1; 0-2 1"), ((3, ((0, 1, 2), (1, 2, 1))), ((0, 2, 1),)))
        self.assertEqual((read_task("2:"), read_task("2:;0-1 06")), (((2, ()), ()), ((2, ()), ((0, 1, 6),))))
        self.assertEqual(read_task(RING_TEXT), (RING, ACROSS))
        self.fails(6, "the lesser point stands first", read_task, "3: 1-0 2")

    def test_without_roads_and_without_wishes(self):
        self.assertEqual(read_task("7:"), ((7, ()), ()))
        self.assertEqual(read_task("2: 0-1 6"), ((2, ((0, 1, 6),)), ()))
        self.assertEqual(read_task("3:;1-2 1"), ((3, ()), ((1, 2, 1),)))
        self.assertEqual(read_task("3 : ; 0-1 1 , 1-2 1"), ((3, ()), ((0, 1, 1), (1, 2, 1))))

    def test_needless_zeros_and_blanks(self):
        self.assertEqual(read_task("000004: 00-01 000006, 1-0002 5;000000-03 01"),
                         ((4, ((0, 1, 6), (1, 2, 5))), ((0, 3, 1),)))
        self.assertEqual(read_task("  4  :  0  -  1   6  ,  1-2  5  ;  0-3  1  "),
                         ((4, ((0, 1, 6), (1, 2, 5))), ((0, 3, 1),)))
        self.assertEqual(read_task("4:0-1 6,1-2 5;0-3 1"), ((4, ((0, 1, 6), (1, 2, 5))), ((0, 3, 1),)))

    def test_each_problem(self):
        for text, column, words in (
                ("1:", 1, "there are 2 to 7 points"), ("0:", 1, "there are 2 to 7 points"),
                ("  8: 0-1 1", 3, "there are 2 to 7 points"), ("000100:", 1, "there are 2 to 7 points"),
                ("4: 4-5 1", 4, "there is no such point"), ("4: 0-4 1", 6, "there is no such point"),
                ("4: 3-4 1", 6, "there is no such point"), ("4: 1-1 1", 6, "the lesser point stands first"),
                ("4: 3-0 1", 6, "the lesser point stands first"), ("4: 0-1 0", 8, "a width is from 1 to 6"),
                ("4: 0-1 7", 8, "a width is from 1 to 6"), ("4: 0-1 100000", 8, "a width is from 1 to 6"),
                ("4: 0-1 1, 0-1 1", 13, "the pairs ascend"), ("4: 1-2 1, 0-3 1", 13, "the pairs ascend"),
                ("4: 0-2 1, 0-1 1", 13, "the pairs ascend"), ("4:; 4-5 1", 5, "there is no such point"),
                ("4:; 0-4 1", 7, "there is no such point"), ("4:; 1-1 1", 7, "the lesser point stands first"),
                ("4:; 0-1 0", 9, "an amount is from 1 to 6"), ("4:; 0-1 7", 9, "an amount is from 1 to 6"),
                ("4:; 0-1 1, 0-1 1", 14, "the pairs ascend"), ("4:; 0-3 1, 0-2 1", 14, "the pairs ascend")):
            self.fails(column, words, read_task, text)

    def test_wishes_begin_anew(self):
        self.assertEqual(read_task("3: 1-2 1; 0-1 1"), ((3, ((1, 2, 1),)), ((0, 1, 1),)))
        self.assertEqual(read_task("3: 0-1 1; 0-1 1"), ((3, ((0, 1, 1),)), ((0, 1, 1),)))

    def test_several_problems(self):
        self.fails(1, "there are 2 to 7 points", read_task, "9: 9-9 9")
        self.fails(4, "there is no such point", read_task, "4: 5-4 9")
        self.fails(6, "there is no such point", read_task, "4: 0-5 0, 9-9 9; 9-9 9")
        self.fails(6, "there is no such point", read_task, "4: 3-9 0")
        self.fails(6, "the lesser point stands first", read_task, "4: 2-1 0")
        self.fails(13, "the lesser point stands first", read_task, "4: 0-3 1, 2-1 1")
        self.fails(13, "there is no such point", read_task, "4: 0-3 1, 0-7 1")
        self.fails(13, "the pairs ascend", read_task, "4: 0-3 1, 0-1 9; 9-9 9")
        self.fails(8, "a width is from 1 to 6", read_task, "4: 0-1 7; 9-9 9")

    def test_sixteen_roads(self):
        self.assertEqual(len(read_task(FULL_TEXT)[0][1]), 15)
        last = len(FULL_TEXT) + 3
        for text in (FULL_TEXT + ", 3-5 1", FULL_TEXT + ", 9-9 9", FULL_TEXT + ", 0-1 1",
                     FULL_TEXT + ", 3-5 1, 9-9 9; 9-9 9"):
            self.fails(last, "there are at most 15 roads", read_task, text)
        early = FULL_TEXT.replace("0-4 1", "0-4 7") + ", 3-5 1"
        self.fails(early.index("7", 3) + 1, "a width is from 1 to 6", read_task, early)
        self.fails(1, "there are 2 to 7 points", read_task, "8" + FULL_TEXT[1:] + ", 3-5 1")

    def test_eleven_wishes(self):
        text = "7:; " + ", ".join(f"{one}-{other} 6" for one, other in PAIRS[:10])
        self.assertEqual(len(read_task(text)[1]), 10)
        last = len(text) + 3
        for more in (", 2-6 1", ", 9-9 9", ", 0-1 1", ", 2-6 1, 9-9 9"):
            self.fails(last, "there are at most 10 wishes", read_task, text + more)
        both = FULL_TEXT + text[2:]
        self.assertEqual([len(links) for links in (read_task(both)[0][1], read_task(both)[1])], [15, 10])
        self.fails(len(both) + 3, "there are at most 10 wishes", read_task, both + ", 2-6 1")

    def test_drawn_texts(self):
        chance, words = some_chance(131), {}
        pool = [task_text(net, wishes) for net, wishes in tasks(60, 132)]
        for _ in range(3000):
            text = mangled(chance.choice(pool), chance)
            problem = task_problem(text)
            self.assertEqual(problem_of(read_task, text), problem, text)
            words[problem and problem[1]] = words.get(problem and problem[1], 0) + 1
        for told in ("there are 2 to 7 points", "there is no such point", "the lesser point stands first",
                     "the pairs ascend", "a width is from 1 to 6", "an amount is from 1 to 6", None):
            self.assertGreater(words[told], 15, told)

    def test_blanks_change_nothing_but_columns(self):
        chance = some_chance(133)
        for net, wishes in tasks(40, 134):
            self.assertEqual(read_task(spread(task_text(net, wishes), chance)), (net, wishes))

    def test_texts_of_1500_characters(self):
        text = RING_TEXT + " " * (1500 - len(RING_TEXT))
        self.assertEqual(read_task(text), (RING, ACROSS))
        self.fails(1500, 'expected "," or the end', read_task, text[:1499] + ";")
        self.fails(1501, "expected a number", read_task, text[:1499] + ",")
        with self.assertRaises(BadValue) as caught:
            read_task(text + " ")
        self.assertEqual(caught.exception.name, "text")


class TestReadWays(TextCase):
    def test_examples(self):
        self.assertEqual(read_ways(RING, ACROSS, HALVES), ((0, (0, 1, 2), (1, 2)), (0, (0, 3, 2), (1, 2))))
        self.assertEqual(read_ways(RING, ACROSS, ""), ())

    def test_texts_without_ways(self):
        for text in ("", " ", "      ", " " * 1500):
            self.assertEqual(read_ways(RING, ACROSS, text), ())
            self.assertEqual(read_ways((2, ()), (), text), ())
        self.fails(1, "there is no such wish", read_ways, (2, ((0, 1, 1),)), (), "0: 0-1 1")

    def test_amounts_of_every_size(self):
        self.assertEqual(read_ways(RING, ACROSS, "1: 1-0-3 999999"), ((1, (1, 0, 3), (999999, 1)),))
        self.assertEqual(read_ways(RING, ACROSS, "1: 1-0-3 999998/999999; 1:1-0-3 000001/02"),
                         ((1, (1, 0, 3), (999998, 999999)), (1, (1, 0, 3), (1, 2))))
        self.assertEqual(read_ways(RING, ACROSS, "01:01-00-03 007 / 0003"), ((1, (1, 0, 3), (7, 3)),))

    def test_ways_that_meet_nothing(self):
        self.assertEqual(read_ways(RING, ACROSS, "1: 1-2-3 5;0: 0-1-2 1;1: 1-2-3 5"),
                         ((1, (1, 2, 3), (5, 1)), (0, (0, 1, 2), (1, 1)), (1, (1, 2, 3), (5, 1))))

    def test_each_problem(self):
        for text, column, words in (
                ("2: 0-1 1", 1, "there is no such wish"), ("000100: 0-1 1", 1, "there is no such wish"),
                ("0: 4-1 1", 4, "there is no such point"), ("0: 0-4-2 1", 6, "there is no such point"),
                ("0: 0-1-4 1", 8, "there is no such point"), ("0: 1-2 1", 4, "the path begins elsewhere"),
                ("0: 2-1-0 1", 4, "the path begins elsewhere"), ("1: 0-3 1", 4, "the path begins elsewhere"),
                ("0: 0-0-2 1", 6, "this point stands already"), ("0: 0-1-0-3-2 1", 8, "this point stands already"),
                ("0: 0-2 1", 6, "there is no such road"), ("0: 0-1-3-2 1", 8, "there is no such road"),
                ("0: 0-1 1", 6, "the path ends elsewhere"), ("0: 0-1-2-3 1", 10, "the path ends elsewhere"),
                ("0: 0-1-2 0", 10, "an amount is greater than 0"), ("0: 0-1-2 00/2", 10, "an amount is greater than 0"),
                ("0: 0-1-2 1/0", 12, "a divisor is from 2 on"), ("0: 0-1-2 1/1", 12, "a divisor is from 2 on"),
                ("0: 0-1-2 2/4", 12, "the fraction can be reduced"),
                ("0: 0-1-2 4/2", 12, "the fraction can be reduced"),
                ("0: 0-1-2 3/3", 12, "the fraction can be reduced"),
                ("0: 0-1-2 6/9; 5: 0-1 1", 12, "the fraction can be reduced")):
            self.fails(column, words, read_ways, RING, ACROSS, text)

    def test_several_problems(self):
        self.fails(1, "there is no such wish", read_ways, RING, ACROSS, "7: 7-7 0/0")
        self.fails(4, "there is no such point", read_ways, RING, ACROSS, "0: 7-7 0/0")
        self.fails(4, "the path begins elsewhere", read_ways, RING, ACROSS, "0: 3-3-0 0/0")
        self.fails(6, "there is no such point", read_ways, RING, ACROSS, "0: 0-9-9 0/0")
        self.fails(6, "there is no such point", read_ways, RING, ACROSS, "0: 0-4 0/0")
        self.fails(6, "this point stands already", read_ways, RING, ACROSS, "0: 0-0 0/0")
        self.fails(6, "there is no such road", read_ways, RING, ((0, 1, 1),), "0: 0-2 0/0")
        self.fails(8, "this point stands already", read_ways, RING, ACROSS, "0: 0-1-1 0/0")
        self.fails(8, "there is no such road", read_ways, RING, ACROSS, "0: 0-1-3 0/0")
        self.fails(10, "an amount is greater than 0", read_ways, RING, ACROSS, "0: 0-1-2 0/0")
        self.fails(12, "a divisor is from 2 on", read_ways, RING, ACROSS, "0: 0-1-2 4/0")
        self.fails(15, "there is no such wish", read_ways, RING, ACROSS, "0: 0-1-2 1/2; 2: 0-1 0")

    def test_drawn_texts(self):
        chance, words = some_chance(135), {}
        pool = [(net, wishes, ways) for net, wishes, ways in met_tasks(60, 136) if ways]
        for _ in range(4000):
            net, wishes, ways = chance.choice(pool)
            told = tuple((index, path, chance.choice(((amount, 1), (1, 2), (3, 4), (5, 3)))) for index, path,
                         amount in ways)
            text = ways_text(net, wishes, told[:chance.randint(1, 3)])
            text = mangled(text, chance)
            problem = ways_problem(net, wishes, text)
            self.assertEqual(problem_of(read_ways, net, wishes, text), problem, text)
            words[problem and problem[1]] = words.get(problem and problem[1], 0) + 1
        for told in ("there is no such wish", "there is no such point", "the path begins elsewhere",
                     "this point stands already", "there is no such road", "the path ends elsewhere",
                     "an amount is greater than 0", "a divisor is from 2 on", "the fraction can be reduced", None):
            self.assertGreater(words[told], 8, told)

    def test_blanks_change_nothing_but_columns(self):
        chance = some_chance(137)
        for net, wishes, ways in met_tasks(40, 138):
            told = tuple((index, path, (2 * amount + 1, 2)) for index, path, amount in ways)
            self.assertEqual(read_ways(net, wishes, spread(ways_text(net, wishes, told), chance)), told)

    def test_wrong_arguments_come_ahead_of_problems(self):
        for arguments, name in (((list(RING), None, None), "net"), ((RING, list(ACROSS), None), "wishes"),
                                ((RING, TEN, "x"), "wishes"), ((RING, ACROSS, "x\n"), "text"),
                                ((RING, ACROSS, None), "text"),
                                ((RING, ACROSS, "x" * 1501), "text"), (((8, ()), ACROSS, "x"), "net")):
            with self.assertRaises(BadValue) as caught:
                read_ways(*arguments)
            self.assertEqual(caught.exception.name, name)
        for text in ("x\n", "x" * 1501, None, 4, b"2:"):
            with self.assertRaises(BadValue) as caught:
                read_task(text)
            self.assertEqual(caught.exception.name, "text")

    def test_large_nets(self):
        self.assertEqual(read_task(task_text(FULL, TEN)), (FULL, TEN))
        self.assertEqual(read_task(task_text(TWO_PARTS, TEN)), (TWO_PARTS, TEN))
        one, other, _ = TEN[0]
        path = (one, 0, other)
        text = f"0: {one}-0-{other} 5/4"
        self.assertEqual(read_ways(FULL, TEN, text), ((0, path, (5, 4)),))


if __name__ == "__main__":
    unittest.main()
