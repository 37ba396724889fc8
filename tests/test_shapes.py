"""Points 45 and 47 to 56: shapes, evidence about them, their parts, and what may join them."""

import random
import unittest
from itertools import combinations, permutations, product

from changes import doubled, in_other_forms, places, put, shortened, shuffled
from samples import ODD_KINDS
from shaped import APART, BOTH, FOUR, NEIGHBOURS, PAIRS, RING, RINGS, STARS, evidence_of, is_right, some_shapes
from wishshapes.shapes import (accepts_shape, greatest_parts, is_enough, is_shape, least_parts, may_join, put_away,
                               renamed_shape, shape_evidence)


def small_shapes():
    """Return all shapes of five points."""
    pairs = list(combinations(range(5), 2))
    return [shape for many in range(11) for shape in combinations(pairs, many)]


def subsets(shape):
    """Return all parts of the shape."""
    return [part for many in range(len(shape) + 1) for part in combinations(shape, many)]


class TestIsShape(unittest.TestCase):
    def all_are(self, wanted, values):
        for value in values:
            self.assertIs(is_shape(value), wanted)

    def test_shapes(self):
        self.all_are(True, some_shapes() + small_shapes() + [(pair,) for pair in PAIRS])

    def test_number_of_pairs(self):
        self.all_are(True, [tuple(PAIRS[:many]) for many in range(11)])
        self.all_are(False, [tuple(PAIRS[:many]) for many in range(11, 22)])

    def test_every_pair(self):
        for one, other in product(range(-2, 10), repeat=2):
            self.assertIs(is_shape(((one, other),)), 0 <= one < other <= 6)

    def test_every_two_pairs(self):
        every = list(product(range(3), range(4)))
        for first, second in product(every, every):
            wanted = first[0] < first[1] and second[0] < second[1] and first < second
            self.assertIs(is_shape((first, second)), wanted)

    def test_other_forms_and_kinds(self):
        for shape in ((), ((0, 1),), RING, STARS):
            self.all_are(False, in_other_forms(shape) + doubled(shape) + shuffled(shape))
            self.all_are(True, shortened(shape))
        self.all_are(False, ODD_KINDS)
        for place in places(BOTH):
            self.all_are(False, [put(BOTH, place, kind) for kind in ODD_KINDS])
        self.all_are(False, [((0, 1, 1),), ((0,),), ((0, 1), (0, 2, 1)), (0, 1), ((0, 1), 2), [[0, 1]], "01"])


class TestEnough(unittest.TestCase):
    def test_examples(self):
        self.assertEqual([is_enough(shape) for shape in (RING, RING[1:], STARS, FOUR, ())], [True] * 5)
        self.assertEqual([is_enough(shape) for shape in (RING + ((5, 6),), BOTH, APART)], [False] * 3)
        self.assertEqual([is_enough(part) for part in shortened(BOTH) + shortened(APART)], [True] * 7)

    def test_all_shapes_of_five_points(self):
        for shape in small_shapes():
            self.assertIs(is_enough(shape), is_right(shape))

    def test_some_shapes_of_seven_points(self):
        found = [is_enough(shape) for shape in some_shapes()]
        self.assertEqual(found, [is_right(shape) for shape in some_shapes()])
        self.assertTrue(20 < sum(found) < len(found) - 20)

    def test_papernov(self):
        for shape in some_shapes():
            words = {told[0] for told in evidence_of(shape)}
            self.assertEqual(words, {"enough"} if is_enough(shape) else {"not"})

    def test_ten_pairs_that_two_stars_meet(self):
        self.assertEqual((len(STARS), is_enough(STARS)), (10, True))
        self.assertEqual(shape_evidence(STARS), ("enough", "stars", (0, 1)))

    def test_two_shapes_without_a_common_point(self):
        for low in subsets(tuple(combinations((0, 2, 5), 2))):
            for high in subsets(tuple(combinations((1, 3, 4, 6), 2))):
                if low and high:
                    wanted = all(set.intersection(*[set(pair) for pair in part]) for part in (low, high))
                    self.assertIs(is_enough(tuple(sorted(low + high))), wanted)


class TestEvidence(unittest.TestCase):
    def test_examples(self):
        self.assertEqual(shape_evidence(RING), ("enough", "ring", (0, 1, 2, 3, 4)))
        self.assertEqual(shape_evidence(RING[1:]), ("enough", "stars", (2, 4)))
        self.assertEqual(shape_evidence(()), ("enough", "stars", (0, 1)))
        self.assertEqual(shape_evidence(FOUR), ("enough", "four", (0, 1, 2, 3)))
        self.assertEqual(shape_evidence(BOTH), ("not", "triangle", BOTH))
        self.assertEqual(shape_evidence(APART), ("not", "apart", APART))

    def test_point_56(self):
        self.assertEqual(shape_evidence(RING)[1], "ring")
        for part in shortened(RING):
            self.assertEqual(shape_evidence(part)[:2], ("enough", "stars"))
        for pair in combinations(range(5), 2):
            if pair not in RING:
                self.assertEqual(shape_evidence(tuple(sorted(RING + (pair,))))[:2], ("not", "triangle"))
        self.assertEqual(shape_evidence(RING + ((5, 6),))[:2], ("not", "apart"))

    def test_the_last_points(self):
        ring = ((2, 3), (2, 6), (3, 4), (4, 5), (5, 6))
        self.assertEqual(shape_evidence(ring), ("enough", "ring", (2, 3, 4, 5, 6)))
        self.assertEqual(shape_evidence(tuple(combinations(range(3, 7), 2))), ("enough", "four", (3, 4, 5, 6)))
        self.assertEqual(shape_evidence(((0, 6), (3, 5))), ("enough", "stars", (0, 3)))

    def test_told_is_the_first_of_all(self):
        for shape in some_shapes() + small_shapes()[::5]:
            told = shape_evidence(shape)
            self.assertEqual(told, evidence_of(shape)[0])
            self.assertIs(accepts_shape(shape, told), True)

    def test_every_ring(self):
        for five in RINGS:
            shape = tuple(sorted(NEIGHBOURS[five]))
            least = min(other for other in permutations(sorted(five)) if NEIGHBOURS[other] == NEIGHBOURS[five])
            if least == five:
                self.assertEqual(shape_evidence(shape), ("enough", "ring", five))

    def test_accepted_are_just_these(self):
        fences = [("stars", two) for two in product(range(-1, 8), repeat=2)]
        for shape in some_shapes(40):
            right = dict.fromkeys(evidence_of(shape))
            for kind, points in fences:
                value = ("enough", kind, points)
                self.assertIs(accepts_shape(shape, value), value in right)
            for points in list(permutations(range(7), 4)) + [(0, 0, 1, 2), (1, 2, 2, 3), (0, 1, 2, 7), (-1, 0, 1, 2)]:
                value = ("enough", "four", points)
                self.assertIs(accepts_shape(shape, value), value in right)

    def test_accepted_rings(self):
        for shape in (RING, RING[1:], (), FOUR, ((2, 3), (2, 6), (3, 4), (4, 5), (5, 6)), ((0, 6),)):
            right = dict.fromkeys(evidence_of(shape))
            for five in RINGS:
                value = ("enough", "ring", five)
                self.assertIs(accepts_shape(shape, value), value in right)
        self.assertIs(accepts_shape(RING, ("enough", "ring", (3, 2, 1, 0, 4))), True)
        for five in ((0, 1, 2, 3, 0), (0, 1, 2, 3), (0, 1, 2, 3, 4, 5), (0, 1, 2, 3, 4, 0), (0, 1, 2, 3, 7),
                     (-1, 1, 2, 3, 4), (0, 0, 0, 0, 0), (0, 1, 2, 2, 1)):
            self.assertIs(accepts_shape((), ("enough", "ring", five)), False)

    def test_accepted_pairs(self):
        for shape in (BOTH, APART, RING + ((5, 6),), tuple(PAIRS[::2][:10]), tuple(PAIRS[-8:]), RING):
            right = dict.fromkeys(evidence_of(shape))
            for three in product(shape, repeat=3):
                value = ("not", "apart", three)
                self.assertIs(accepts_shape(shape, value), value in right)
            for four in permutations(shape, 4):
                value = ("not", "triangle", four)
                self.assertIs(accepts_shape(shape, value), value in right)

    def test_pairs_that_the_shape_has_not(self):
        self.assertIs(accepts_shape(APART, ("not", "apart", ((0, 1), (2, 3), (4, 6)))), False)
        self.assertIs(accepts_shape(BOTH[1:], ("not", "triangle", BOTH)), False)
        self.assertIs(accepts_shape(BOTH[:3], ("not", "triangle", BOTH)), False)
        self.assertIs(accepts_shape(BOTH[:3], ("not", "triangle", BOTH[:3])), False)
        self.assertIs(accepts_shape(BOTH, ("not", "triangle", BOTH[::-1])), False)
        self.assertIs(accepts_shape(BOTH, ("not", "triangle", (BOTH[0], BOTH[0], BOTH[1], BOTH[3]))), False)
        path = ((0, 1), (1, 2), (2, 3), (4, 5))
        self.assertIs(accepts_shape(path, ("not", "triangle", path)), False)

    def test_exactly_one_word(self):
        for shape in some_shapes():
            told = shape_evidence(shape)
            other = "not" if told[0] == "enough" else "enough"
            self.assertIs(accepts_shape(shape, (other, *told[1:])), False)

    def test_other_forms_and_kinds(self):
        for shape in (RING, RING[1:], FOUR, BOTH, APART, ()):
            value = shape_evidence(shape)
            wrong = in_other_forms(value) + shortened(value) + doubled(value) + shuffled(value)
            wrong += [put(value, (2,), less) for less in shortened(value[2]) + doubled(value[2])]
            wrong += [*ODD_KINDS, (value[0], "rings", value[2]), ("Enough", *value[1:]), (value[0], value[2])]
            for place in places(value)[1:]:
                wrong += [put(value, place, kind) for kind in ODD_KINDS]
            for other in wrong:
                self.assertIs(accepts_shape(shape, other), False)


class TestParts(unittest.TestCase):
    def test_examples(self):
        self.assertEqual(least_parts(BOTH), [BOTH])
        self.assertEqual((put_away(BOTH), greatest_parts(BOTH)[0]), (((0, 1),), ((0, 1), (0, 2), (1, 2))))
        self.assertEqual(greatest_parts(APART), [APART[:2], (APART[0], APART[2]), APART[1:]])
        self.assertEqual((least_parts(APART), put_away(APART)), ([APART], ((0, 1),)))
        self.assertEqual(len(least_parts(RING + ((5, 6),))), 5)

    def test_a_shape_that_is_enough(self):
        for shape in some_shapes():
            if is_enough(shape):
                self.assertEqual((least_parts(shape), greatest_parts(shape), put_away(shape)), ([], [shape], ()))
            else:
                self.assertNotEqual(least_parts(shape), [])

    def test_without_pairs(self):
        self.assertEqual((least_parts(()), greatest_parts(()), put_away(())), ([], [()], ()))

    def by_going_through(self, shape):
        """Return the least parts, the greatest parts and what is put away, by going through all parts."""
        every = subsets(shape)
        right = {part for part in every if is_right(part)}
        least = [part for part in every if part not in right and all(less in right for less in shortened(part))]
        greatest = []
        for part in right:
            more = [tuple(sorted(part + (pair,))) for pair in shape if pair not in part]
            if not any(larger in right for larger in more):
                greatest.append(part)
        away = next(some for some in every if tuple(pair for pair in shape if pair not in some) in right)
        return sorted(least), sorted(greatest), away

    def test_against_going_through_all_parts(self):
        checked = [shape for shape in some_shapes(60) if len(shape) <= 7]
        for shape in [*checked, RING + ((5, 6),), BOTH + ((4, 5),), BOTH + ((3, 5), (5, 6))]:
            shape = tuple(sorted(shape))
            found = (least_parts(shape), greatest_parts(shape), put_away(shape))
            self.assertEqual([type(part) for part in found], [list, list, tuple])
            self.assertEqual(found, self.by_going_through(shape))

    def test_shapes_of_ten_pairs(self):
        checked = [shape for shape in some_shapes(200, 12) if len(shape) == 10][:3]
        self.assertEqual(len(checked), 3)
        for shape in [*checked, tuple(PAIRS[::2][:10])]:
            right = [part for part in subsets(shape) if is_enough(part)]
            sets = [set(part) for part in right]
            greatest = [part for part, own in zip(right, sets) if not any(own < other for other in sets)]
            self.assertEqual(greatest_parts(shape), sorted(greatest))
            most = max(len(part) for part in right)
            rests = [tuple(pair for pair in shape if pair not in part) for part in right if len(part) == most]
            self.assertEqual(put_away(shape), min(rests))

    def test_the_kinds_of_least_parts(self):
        for shape in some_shapes():
            wanted = []
            for told in evidence_of(shape):
                if told[0] == "not":
                    wanted.append(tuple(sorted(told[2])))
            self.assertEqual(least_parts(shape), sorted(wanted))

    def test_lists_that_are_changed_change_no_later_answer(self):
        for function in (least_parts, greatest_parts):
            found = function(BOTH)
            kept = list(found)
            found.clear()
            found.append(None)
            self.assertEqual(function(BOTH), kept)


class TestMayJoin(unittest.TestCase):
    def test_examples(self):
        wanted = ((0, 2), (0, 3), (0, 4), (1, 2), (1, 3), (1, 4), (2, 4), (3, 4))
        self.assertEqual(may_join(((0, 1), (2, 3)), 5), wanted)
        self.assertEqual((may_join(RING, 5), may_join(BOTH, 7), may_join(APART, 7)), ((), (), ()))

    def test_without_pairs(self):
        for points in range(2, 8):
            self.assertEqual(may_join((), points), tuple(combinations(range(points), 2)))

    def test_against_the_evidence(self):
        for shape in some_shapes(80):
            for points in range(2, 8):
                found = may_join(shape, points)
                wanted = []
                for pair in combinations(range(points), 2):
                    with_it = tuple(sorted(shape + (pair,)))
                    if pair not in shape and len(shape) < 10 and is_right(shape) and is_right(with_it):
                        wanted.append(pair)
                self.assertEqual((type(found), found), (tuple, tuple(wanted)))

    def test_a_shape_of_ten_pairs_lets_none_join(self):
        self.assertEqual(may_join(STARS, 7), ())
        self.assertEqual(may_join(STARS[:-1], 7), ((1, 5), (1, 6)))

    def test_points_that_the_shape_has_besides(self):
        self.assertEqual(may_join(((4, 5), (5, 6)), 2), ((0, 1),))


class TestRenamed(unittest.TestCase):
    def test_examples(self):
        self.assertEqual(renamed_shape(((0, 1), (2, 3)), (6, 5, 4, 3, 2, 1, 0)), ((3, 4), (5, 6)))
        self.assertEqual(renamed_shape(((0, 1), (1, 2)), (1, 2, 0, 3, 4, 5, 6)), ((0, 2), (1, 2)))
        self.assertEqual(renamed_shape((), (6, 5, 4, 3, 2, 1, 0)), ())

    def test_renamed_as_it_was(self):
        chance = random.Random(13)
        for shape in some_shapes():
            order = tuple(chance.sample(range(7), 7))
            found = renamed_shape(shape, order)
            self.assertIs(is_shape(found), True)
            moved = sorted(tuple(sorted((order[one], order[other]))) for one, other in shape)
            self.assertEqual(found, tuple(moved))
            back = tuple(order.index(point) for point in range(7))
            self.assertEqual(renamed_shape(found, back), shape)
            self.assertEqual(renamed_shape(shape, tuple(range(7))), shape)
            self.assertIs(is_enough(found), is_enough(shape))
            self.assertEqual(len(least_parts(found)), len(least_parts(shape)))
            self.assertEqual(len(greatest_parts(found)), len(greatest_parts(shape)))
            self.assertEqual(len(put_away(found)), len(put_away(shape)))


if __name__ == "__main__":
    unittest.main()
