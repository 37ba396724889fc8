"""Points 131 to 134: nets with wishes, and ways, written as texts."""

import random
import unittest

from samples import ACROSS, FULL, RING, TEN, TWO_PARTS, met_tasks, tasks
from wishshapes.errors import BadValue, TooLarge
from wishshapes.lengths import accepts_evidence
from wishshapes.reading import read_task, read_ways
from wishshapes.writing import task_text, ways_text

HALF = ((0, (0, 1, 2), (1, 2)),)


class TestTaskText(unittest.TestCase):
    def test_examples(self):
        self.assertEqual(task_text(RING, ACROSS), "4: 0-1 1, 0-3 1, 1-2 1, 2-3 1; 0-2 1, 1-3 1")
        self.assertEqual(task_text((2, ()), ((0, 1, 6),)), "2:; 0-1 6")

    def test_point_134(self):
        self.assertEqual(task_text(*read_task("4: 0-1 1, 0-3 1, 1-2 1, 2-3 1; 0-2 1, 1-3 1")),
                         "4: 0-1 1, 0-3 1, 1-2 1, 2-3 1; 0-2 1, 1-3 1")
        ways = read_ways(RING, ACROSS[:1], "0: 0-1-2 1/2; 0: 0-3-2 1/2")
        self.assertIs(accepts_evidence(RING, ACROSS[:1], ("ways", ways)), True)

    def test_without_roads_or_wishes(self):
        self.assertEqual((task_text((2, ()), ()), task_text((7, ()), ())), ("2:", "7:"))
        self.assertEqual(task_text((2, ((0, 1, 6),)), ()), "2: 0-1 6")
        self.assertEqual(task_text((3, ((0, 1, 6), (1, 2, 3))), ((1, 2, 4),)), "3: 0-1 6, 1-2 3; 1-2 4")

    def test_read_again(self):
        for net, wishes in tasks(100, 140) + [(FULL, TEN), (TWO_PARTS, TEN)]:
            text = task_text(net, wishes)
            self.assertEqual(read_task(text), (net, wishes))
            self.assertEqual(text, text.strip())
            self.assertNotIn("  ", text)

    def test_wrong_arguments(self):
        for arguments, name in (((list(RING), None), "net"), ((RING, list(ACROSS)), "wishes"),
                                (((2, ()), ACROSS), "wishes")):
            with self.assertRaises(BadValue) as caught:
                task_text(*arguments)
            self.assertEqual(caught.exception.name, name)


class TestWaysText(unittest.TestCase):
    def too_large(self, *arguments):
        with self.assertRaises(TooLarge) as caught:
            ways_text(*arguments)
        self.assertEqual(caught.exception.what, "text")

    def test_examples(self):
        ways = ((1, (1, 0, 3), (2, 1)), (1, (1, 2, 3), (1, 2)))
        self.assertEqual(ways_text(RING, ACROSS, ways), "1: 1-0-3 2; 1: 1-2-3 1/2")
        halves = ((0, (0, 1, 2), (1, 2)), (0, (0, 3, 2), (1, 2)))
        self.assertEqual(ways_text(RING, ACROSS, halves), "0: 0-1-2 1/2; 0: 0-3-2 1/2")

    def test_no_ways(self):
        self.assertEqual(ways_text(RING, ACROSS, ()), "")
        self.assertEqual(ways_text((2, ()), (), ()), "")

    def test_a_stroke_for_fractions_that_are_no_integers(self):
        for amount, text in (((1, 1), "1"), ((7, 1), "7"), ((1, 2), "1/2"), ((7, 2), "7/2"), ((10, 3), "10/3"),
                             ((1, 100), "1/100")):
            self.assertEqual(ways_text(RING, ACROSS, ((0, (0, 1, 2), amount),)), "0: 0-1-2 " + text)

    def test_read_again(self):
        chance = random.Random(141)
        for net, wishes, ways in met_tasks(100, 142):
            told = tuple((index, path, chance.choice(((amount, 1), (1, 2), (5, 3), (999999, 999998), (1, 7))))
                         for index, path, amount in ways)
            text = ways_text(net, wishes, told)
            self.assertEqual(read_ways(net, wishes, text), told)
            self.assertEqual(ways_text(net, wishes, read_ways(net, wishes, text)), text)
            self.assertNotIn("  ", text)

    def test_numbers_of_six_digits_and_of_seven(self):
        for amount in ((999999, 1), (1, 999999), (999998, 999999)):
            text = ways_text(RING, ACROSS, ((0, (0, 1, 2), amount),))
            self.assertEqual(read_ways(RING, ACROSS, text), ((0, (0, 1, 2), amount),))
        for amount in ((1000000, 1), (1, 1000000), (1000000, 999999), (999999, 1000000), (10 ** 6000, 1),
                       (1, 10 ** 6000)):
            self.too_large(RING, ACROSS, ((0, (0, 1, 2), amount),))
            self.too_large(RING, ACROSS, HALF + ((0, (0, 1, 2), amount),) + HALF)

    def test_texts_of_1500_characters_and_of_more(self):
        # 107 triples of 12 characters with two characters between each two of them have 1496 characters.
        for many, last, length in ((107, (1, 2), 1496), (107, (11, 12), 1498), (107, (111, 112), 1500),
                                   (106, (1, 2), 1482)):
            text = ways_text(RING, ACROSS, HALF * (many - 1) + ((0, (0, 1, 2), last),))
            self.assertEqual(len(text), length)
            self.assertEqual(len(read_ways(RING, ACROSS, text)), many)
        for many, last in ((107, (111, 1112)), (107, (1111, 1112)), (108, (1, 1)), (108, (1, 2)), (1000, (1, 2))):
            self.too_large(RING, ACROSS, HALF * (many - 1) + ((0, (0, 1, 2), last),))

    def test_wrong_arguments_come_first(self):
        long = ((0, (0, 1, 2), (10 ** 7, 1)),)
        for arguments, name in (((list(RING), None, None), "net"), ((RING, list(ACROSS), None), "wishes"),
                                ((RING, ACROSS, list(HALF)), "ways"), ((RING, ACROSS, HALF * 200 + (None,)), "ways"),
                                ((RING, ACROSS, long + ((0, (0, 1, 2), (2, 4)),)), "ways"), ((RING, (), HALF), "ways"),
                                (((2, ()), ACROSS, HALF), "wishes"), ((RING, ACROSS, ((0, (0, 2), (1, 2)),)), "ways")):
            with self.assertRaises(BadValue) as caught:
                ways_text(*arguments)
            self.assertEqual(caught.exception.name, name)

    def test_ways_that_meet_nothing_are_written(self):
        self.assertEqual(ways_text(RING, ACROSS, HALF * 3), "; ".join(["0: 0-1-2 1/2"] * 3))


if __name__ == "__main__":
    unittest.main()
