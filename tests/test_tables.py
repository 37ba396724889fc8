"""Points 29 to 33: tables, trees, and numbers that are a table or none."""

import random
import unittest
from itertools import combinations, permutations, product

from changes import doubled, in_other_forms, put, shortened, shuffled
from judges import least_width
from samples import BARE, FULL, ODD_KINDS, PAIR, RING, ROW, TWO_PARTS, tasks
from wishshapes.nets import is_net
from wishshapes.tables import accepts_numbers, numbers_evidence, table, tree

OTHER = (4, ((0, 1, 3), (0, 2, 1), (1, 2, 2), (2, 3, 1)))
OTHER_TABLE = ((0, 1, 4), (0, 2, 3), (0, 3, 1), (1, 2, 3), (1, 3, 1), (2, 3, 1))


def nets():
    """Return nets of 2 to 7 points, with none to 15 roads."""
    found = [net for net, _ in tasks(72, 6)] + [OTHER, RING, ROW, BARE, PAIR, TWO_PARTS, FULL, (7, ())]
    return list(dict.fromkeys(found))


def reached(triples, start, without=()):
    """Return all points to which triples, but for those left out, lead one after another from the start."""
    found = [start]
    for here in found:
        for triple in triples:
            if triple not in without and here in triple[:2]:
                there = triple[0] + triple[1] - here
                if there not in found:
                    found.append(there)
    return found


def paths(links, one, other):
    """Return all paths that the links let from the one point to the other, as lists of the numbers along them."""
    found, waiting = [], [((one,), ())]
    for points, numbers in waiting:
        if points[-1] == other:
            found.append(list(numbers))
            continue
        for low, high, number in links:
            if points[-1] in (low, high) and low + high - points[-1] not in points:
                waiting.append((points + (low + high - points[-1],), numbers + (number,)))
    return found


def tree_by_words(points, rows):
    """Return the tree as point 30 says, step by step."""
    taken = []
    for number in sorted({row[2] for row in rows}, reverse=True):
        for row in sorted(rows):
            if row[2] == number and row[1] not in reached(taken, row[0]):
                taken.append(row)
    assert len(taken) == points - 1
    return tuple(sorted(taken))


def is_single_least(numbers, three):
    """Tell whether the least of the numbers between the three points comes once only."""
    between = [row[2] for row in numbers if row[0] in three and row[1] in three]
    return between.count(min(between)) == 1


def numbers_of(points, values):
    """Return numbers for so many points with these values in order."""
    return tuple((one, other, value) for (one, other), value in zip(combinations(range(points), 2), values))


def some_numbers(many=150, seed=3):
    """Return pairs of a number of points and numbers for them, about half of them a table."""
    chance = random.Random(seed)
    found = []
    while len(found) < many:
        points = 2 + len(found) % 6
        roads = [(chance.randrange(other), other, chance.randint(0, 6)) for other in range(1, points)]
        values = [min(paths(roads, one, other)[0]) for one, other in combinations(range(points), 2)]
        for _ in range(chance.randint(0, 2)):
            values[chance.randrange(len(values))] = chance.randint(0, 6)
        found.append((points, numbers_of(points, values)))
    return found


def roads_right(points, numbers, roads):
    """Tell, as point 32 says, whether these roads of a net are evidence about the numbers."""
    for one, other, number in numbers:
        found = paths(roads, one, other)
        if len(found) > 1 or number != (min(found[0]) if found else 0):
            return False
    return is_net((points, roads))


class TestTables(unittest.TestCase):
    def test_examples(self):
        self.assertEqual(table(OTHER), OTHER_TABLE)
        self.assertEqual(tree(OTHER), ((0, 1, 4), (0, 2, 3), (0, 3, 1)))
        self.assertEqual((table(BARE), tree(BARE)), (((0, 1, 0),), ((0, 1, 0),)))
        self.assertEqual((table(PAIR), tree(PAIR)), (((0, 1, 3),), ((0, 1, 3),)))
        self.assertEqual((table(ROW), tree(ROW)), (((0, 1, 6), (0, 2, 5), (1, 2, 5)), ((0, 1, 6), (0, 2, 5))))
        self.assertEqual(tree(RING), ((0, 1, 2), (0, 2, 2), (0, 3, 2)))
        self.assertEqual(tree((3, ((1, 2, 4),))), ((0, 1, 0), (1, 2, 4)))

    def test_each_number_is_the_most(self):
        for net in nets():
            pairs = list(combinations(range(net[0]), 2))
            wanted = tuple((one, other, least_width(net, [(one, other)])) for one, other in pairs)
            self.assertEqual(table(net), wanted)

    def test_of_three_numbers_the_least_comes_twice(self):
        for net in nets():
            found = table(net)
            for three in combinations(range(net[0]), 3):
                self.assertFalse(is_single_least(found, three))

    def test_trees(self):
        for net in nets():
            found = tree(net)
            self.assertEqual(found, tree_by_words(net[0], table(net)))
            self.assertEqual((type(found), len(found)), (tuple, net[0] - 1))
            self.assertTrue(all(triple in table(net) for triple in found))

    def test_the_tree_tells_the_most_between_any_two_points(self):
        for net in nets():
            found = tree(net)
            for one, other, number in table(net):
                along = paths(found, one, other)
                self.assertEqual(len(along), 1)
                self.assertEqual(min(along[0]), number)

    def test_all_numbers_of_points(self):
        self.assertEqual(sorted({net[0] for net in nets()}), [2, 3, 4, 5, 6, 7])


class TestNumbers(unittest.TestCase):
    def check(self, points, numbers):
        found = numbers_evidence(points, numbers)
        self.assertIs(accepts_numbers(points, numbers, found), True)
        threes = [three for three in combinations(range(points), 3) if is_single_least(numbers, three)]
        self.assertEqual(found[0], "three" if threes else "roads")
        for three in combinations(range(points), 3):
            self.assertIs(accepts_numbers(points, numbers, ("three", *three)), three in threes)
        if threes:
            self.assertIn(found[1:], threes)
        else:
            self.assertTrue(roads_right(points, numbers, found[1]))
            self.assertEqual(table((points, found[1])), numbers)
        return found[0]

    def test_examples(self):
        numbers = ((0, 1, 4), (0, 2, 3), (1, 2, 3))
        self.assertIs(accepts_numbers(3, numbers, ("roads", ((0, 1, 4), (1, 2, 3)))), True)
        self.assertIs(accepts_numbers(3, numbers, ("roads", ((0, 1, 4), (0, 2, 3)))), True)
        self.assertIs(accepts_numbers(3, numbers, ("roads", ((0, 2, 3), (1, 2, 3)))), False)
        self.assertEqual(numbers_evidence(3, ((0, 1, 1), (0, 2, 2), (1, 2, 3))), ("three", 0, 1, 2))
        self.assertIs(accepts_numbers(4, OTHER_TABLE, ("roads", ((0, 1, 4), (0, 2, 3), (2, 3, 1)))), True)

    def test_two_points(self):
        for number in range(7):
            roads = ((0, 1, number),) if number else ()
            self.assertEqual(numbers_evidence(2, ((0, 1, number),)), ("roads", roads))
            for width in range(1, 7):
                value = ("roads", ((0, 1, width),))
                self.assertIs(accepts_numbers(2, ((0, 1, number),), value), width == number)
            self.assertIs(accepts_numbers(2, ((0, 1, number),), ("roads", ())), number == 0)
            for three in product(range(3), repeat=3):
                self.assertIs(accepts_numbers(2, ((0, 1, number),), ("three", *three)), False)

    def test_all_numbers_for_three_points(self):
        words = [self.check(3, numbers_of(3, values)) for values in product(range(7), repeat=3)]
        wanted = [values for values in product(range(7), repeat=3) if values.count(min(values)) > 1]
        self.assertEqual(words.count("roads"), len(wanted))

    def test_numbers_for_all_numbers_of_points(self):
        seen = set()
        for points, numbers in some_numbers():
            seen.add((points, self.check(points, numbers)))
        self.assertEqual(len(seen), 11)

    def test_no_numbers_and_the_greatest_ones(self):
        for points in range(2, 8):
            pairs = list(combinations(range(points), 2))
            self.assertEqual(numbers_evidence(points, numbers_of(points, [0] * len(pairs))), ("roads", ()))
            self.assertEqual(self.check(points, numbers_of(points, [6] * len(pairs))), "roads")

    def test_tables_of_nets_are_numbers_with_roads(self):
        for net in nets():
            if max(row[2] for row in table(net)) <= 6:
                self.assertEqual(self.check(net[0], table(net)), "roads")

    def test_every_roads_for_three_points(self):
        choices = [[None, *range(0, 8)]] * 3
        for values in ((4, 3, 3), (0, 0, 6), (2, 2, 2), (0, 0, 0), (1, 2, 3)):
            numbers = numbers_of(3, values)
            for widths in product(*choices):
                pairs = zip(combinations(range(3), 2), widths)
                roads = tuple((one, other, width) for (one, other), width in pairs if width is not None)
                right = all(1 <= road[2] <= 6 for road in roads) and roads_right(3, numbers, roads)
                self.assertIs(accepts_numbers(3, numbers, ("roads", roads)), right)

    def test_roads_with_a_ring(self):
        numbers = numbers_of(3, (2, 2, 2))
        self.assertEqual(table((3, ((0, 1, 1), (0, 2, 1), (1, 2, 1)))), numbers)
        self.assertIs(accepts_numbers(3, numbers, ("roads", ((0, 1, 1), (0, 2, 1), (1, 2, 1)))), False)
        self.assertIs(accepts_numbers(4, table(RING), ("roads", RING[1])), False)
        lone = (5, ((0, 1, 1), (0, 2, 1), (1, 2, 1)))
        self.assertIs(accepts_numbers(5, table(lone), ("roads", lone[1])), False)

    def test_wrong_roads(self):
        numbers = ((0, 1, 4), (0, 2, 0), (1, 2, 0))
        self.assertIs(accepts_numbers(3, numbers, ("roads", ((0, 1, 4),))), True)
        for roads in (((0, 1, 4), (1, 2, 0)), ((0, 1, 4), (1, 3, 1)), ((1, 0, 4),), ((0, 1, 4), (0, 1, 4)),
                      ((0, 1, 5),), ((0, 1, 3),), (), ((0, 1, 4), (1, 2, 1)), ((-1, 1, 4),), ((0, 0, 4),), ((0, 1),),
                      [(0, 1, 4)]):
            self.assertIs(accepts_numbers(3, numbers, ("roads", roads)), False)

    def test_three_points_in_another_sequence(self):
        numbers = numbers_of(4, (1, 2, 2, 3, 3, 3))
        self.assertIs(accepts_numbers(4, numbers, ("three", 0, 1, 2)), True)
        for three in permutations((0, 1, 2)):
            self.assertIs(accepts_numbers(4, numbers, ("three", *three)), three == (0, 1, 2))
        for three in product(range(-1, 6), repeat=3):
            right = three in ((0, 1, 2), (0, 1, 3))
            self.assertIs(accepts_numbers(4, numbers, ("three", *three)), right)

    def test_more_or_less_than_three_points(self):
        numbers = numbers_of(4, (1, 2, 2, 3, 3, 3))
        for points in ((0, 1), (0, 1, 2, 3), (0, 1, 2, 2), (0, 0, 1, 2), ()):
            self.assertIs(accepts_numbers(4, numbers, ("three", *points)), False)

    def test_the_least_number_twice_or_three_times(self):
        for values, wanted in (((1, 2, 2), True), ((2, 1, 2), True), ((2, 2, 1), True), ((1, 2, 3), True),
                               ((1, 1, 2), False), ((2, 1, 1), False), ((3, 3, 3), False), ((0, 0, 0), False)):
            self.assertIs(accepts_numbers(3, numbers_of(3, values), ("three", 0, 1, 2)), wanted)

    def test_other_forms_and_kinds(self):
        for points, numbers in ((4, OTHER_TABLE), (3, numbers_of(3, (1, 2, 3))), (2, ((0, 1, 0),))):
            value = numbers_evidence(points, numbers)
            wrong = in_other_forms(value) + shortened(value) + doubled(value) + [value[::-1], value[1:] + value[:1]]
            wrong += shuffled(value) + [("roads",), ("three",), ("three", (0, 1, 2)), ("roads", *OTHER[1])]
            wrong += [(word, *value[1:]) for word in ("road", "threes", "", None, 0, b"roads", ("roads",))]
            wrong += list(ODD_KINDS) + [("roads", kind) for kind in ODD_KINDS]
            wrong += [("three", 0, 1, kind) for kind in ODD_KINDS] + [("three", kind, 1, 2) for kind in ODD_KINDS]
            wrong += [(kind, *value[1:]) for kind in ODD_KINDS]
            for other in wrong:
                self.assertIs(accepts_numbers(points, numbers, other), False)

    def test_words_changed(self):
        numbers = numbers_of(3, (1, 2, 3))
        self.assertIs(accepts_numbers(3, numbers, ("roads", 0, 1, 2)), False)
        self.assertIs(accepts_numbers(4, OTHER_TABLE, ("three", numbers_evidence(4, OTHER_TABLE)[1])), False)

    def test_one_number_changed(self):
        for points, numbers in some_numbers(40, 4):
            value = numbers_evidence(points, numbers)
            if value[0] == "roads":
                for index, road in enumerate(value[1]):
                    for width in range(8):
                        after = put(value, (1, index, 2), width)
                        self.assertIs(accepts_numbers(points, numbers, after), width == road[2])
                for less in shortened(value[1]):
                    self.assertIs(accepts_numbers(points, numbers, ("roads", less)), False)


if __name__ == "__main__":
    unittest.main()
