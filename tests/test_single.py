"""Points 22 to 28 and 33: bundles, the most, evidence about amounts, least fences and roads that matter."""

import unittest
from itertools import combinations

from changes import doubled, in_other_forms, put, shortened, shuffled
from judges import changed_road, is_right_bundle, least_width, parting, with_road
from samples import BARE, FULL, ODD_KINDS, PAIR, RING, ROW, TWO_PARTS, crosses, masks, steps, sum_across, tasks
from wishshapes.nets import is_net
from wishshapes.single import (accepts_amount, accepts_bundle, amount_evidence, bundle, least_fences, most,
                               narrower_roads, sides, wider_roads)

FIRST = (4, ((0, 1, 2), (0, 2, 1), (1, 2, 1), (1, 3, 1), (2, 3, 2)))
SECOND = (4, ((0, 1, 3), (0, 2, 1), (1, 2, 2), (2, 3, 1)))
THREE = (((0, 1, 2, 3), 1), ((0, 1, 3), 1), ((0, 2, 3), 1))
# The shortest path from 0 to 5 stands in the way of the two paths that carry the most.
GIVEN_UP = (6, ((0, 1, 1), (0, 3, 1), (1, 2, 1), (1, 4, 1), (2, 3, 1), (2, 5, 1), (4, 5, 1)))
WIDE = (7, tuple((0, other, 6) for other in range(1, 7)) + tuple((one, 6, 6) for one in range(1, 6)))


def nets():
    """Return nets of 2 to 7 points, with none to 15 roads."""
    found = [FIRST, SECOND, GIVEN_UP, WIDE, RING, ROW, BARE, PAIR, TWO_PARTS, FULL, (7, ())]
    return list(dict.fromkeys([net for net, _ in tasks(66, 5)] + found))


def cases():
    """Return triples of a net and two of its points, all two points of each net."""
    return [(net, one, other) for net in nets() for one, other in combinations(range(net[0]), 2)]


def carried(value):
    """Return what a bundle carries."""
    return sum(amount for _, amount in value)


class TestMost(unittest.TestCase):
    def test_examples(self):
        self.assertEqual([most(FIRST, 0, 3), most(SECOND, 0, 1), most(SECOND, 0, 2), most(SECOND, 1, 3)], [3, 4, 3, 1])
        self.assertEqual([most(RING, 0, 2), most(RING, 0, 1), most(ROW, 0, 2)], [2, 2, 5])
        self.assertEqual([most(BARE, 0, 1), most(PAIR, 0, 1), most(TWO_PARTS, 0, 1)], [0, 3, 0])

    def test_as_much_as_ever_goes(self):
        self.assertEqual((most(WIDE, 0, 6), carried(bundle(WIDE, 0, 6))), (36, 36))

    def test_least_width_of_the_fences_that_part(self):
        for net, one, other in cases():
            self.assertEqual(most(net, one, other), least_width(net, [(one, other)]))

    def test_all_numbers_of_points_and_many_roads(self):
        found = nets()
        self.assertEqual(sorted({net[0] for net in found}), [2, 3, 4, 5, 6, 7])
        self.assertTrue(all(is_net(net) for net in found))
        self.assertIn(15, [len(net[1]) for net in found])


class TestBundles(unittest.TestCase):
    def test_the_bundle_carries_the_most(self):
        for net, one, other in cases():
            found = bundle(net, one, other)
            self.assertIsInstance(found, tuple)
            self.assertTrue(all(type(item) is tuple and type(item[0]) is tuple for item in found))
            self.assertTrue(is_right_bundle(net, one, other, found))
            self.assertEqual(carried(found), most(net, one, other))
            self.assertIs(accepts_bundle(net, one, other, found), True)

    def test_a_shorter_path_that_must_be_given_up(self):
        self.assertEqual(sorted(bundle(GIVEN_UP, 0, 5)), [((0, 1, 4, 5), 1), ((0, 3, 2, 5), 1)])
        self.assertEqual(amount_evidence(GIVEN_UP, 0, 5, 3), ("fence", (1, 2, 3, 4, 5)))

    def test_without_a_path_the_bundle_is_empty(self):
        self.assertEqual([bundle(BARE, 0, 1), bundle(TWO_PARTS, 0, 1), bundle((7, ()), 3, 6)], [(), (), ()])
        self.assertIs(accepts_bundle(BARE, 0, 1, ()), True)
        self.assertIs(accepts_bundle(BARE, 0, 1, (((0, 1), 1),)), False)

    def test_every_path_crosses_each_least_fence_once(self):
        for net, one, other in cases():
            found = bundle(net, one, other)
            for fence in least_fences(net, one, other):
                crossed = []
                for path, amount in found:
                    across = [step for step in steps(path) if crosses(step, fence)]
                    self.assertEqual(len(across), 1)
                    crossed += across * amount
                wanted = [road[:2] for road in net[1] if crosses(road, fence) for _ in range(road[2])]
                self.assertEqual(sorted(crossed), sorted(wanted))

    def test_other_bundles(self):
        self.assertIs(accepts_bundle(FIRST, 0, 3, THREE), True)
        for value in shortened(THREE) + shuffled(THREE) + [(), THREE[:1]]:
            self.assertIs(accepts_bundle(FIRST, 0, 3, value), True)
        self.assertIs(accepts_bundle(ROW, 0, 2, (((0, 1, 2), 2), ((0, 1, 2), 3))), True)
        self.assertIs(accepts_bundle(ROW, 0, 2, (((0, 1, 2), 3), ((0, 1, 2), 3))), False)
        self.assertIs(accepts_bundle(ROW, 0, 2, (((0, 1, 2), 6),)), False)
        self.assertIs(accepts_bundle(ROW, 0, 1, (((0, 1), 6),)), True)
        self.assertIs(accepts_bundle(ROW, 0, 1, (((0, 1), 7),)), False)

    def test_a_wrong_bundle(self):
        for item in [((0, 2), 1), ((0, 3, 2), 1), ((2, 1, 0), 1), ((0, 1), 1), ((1, 2), 1), ((0,), 1), ((), 1),
                     ((0, 1, 0, 1, 2), 1), ((0, 1, 1, 2), 1), ((0, 1, 2, 2), 1), ((0, 1, 2), 0), ((0, 1, 2), -1),
                     ((0, 1, 2), True), ((0, 1, 2), (1, 1)), ((0, True, 2), 1), ((False, 1, 2), 1), ((0, 1.0, 2), 1),
                     ([0, 1, 2], 1), [(0, 1, 2), 1], ((0, 1, 2),), ((0, 1, 2), 1, 1), ((0, 1, 2), 1.0), ((0, -2, 2), 1),
                     ((0, 1, 2), None), ((0, 1, 2), "1"), ((0, 1, 2, 3), 1), ("012", 1), ((0, 1, 2), 10 ** 60)]:
            with self.subTest(item=item):
                self.assertIs(accepts_bundle(ROW, 0, 2, (item,)), False)
                self.assertIs(accepts_bundle(ROW, 0, 2, (((0, 1, 2), 1), item)), False)
                self.assertIs(accepts_bundle(ROW, 0, 2, (item, ((0, 1, 2), 1))), False)

    def test_a_path_that_goes_along_a_road_twice(self):
        self.assertIs(accepts_bundle(FIRST, 0, 3, (((0, 1, 0, 1, 3), 1),)), False)
        self.assertIs(accepts_bundle(FIRST, 0, 3, (((0, 1, 2, 0, 1, 3), 1),)), False)
        self.assertIs(accepts_bundle(FIRST, 0, 3, (((0, 1, 2, 1, 3), 1),)), False)

    def test_other_forms_and_kinds(self):
        for value in in_other_forms(THREE):
            self.assertIs(accepts_bundle(FIRST, 0, 3, value), False)
        for value in ODD_KINDS:
            self.assertIs(accepts_bundle(FIRST, 0, 3, value), False)
            for place in ((0,), (0, 0), (0, 1), (0, 0, 1), (2, 1)):
                self.assertIs(accepts_bundle(FIRST, 0, 3, put(THREE, place, value)), False)

    def test_one_number_changed(self):
        for net, one, other in cases()[::7]:
            for value in [bundle(net, one, other), *shortened(bundle(net, one, other))]:
                for index, (path, amount) in enumerate(value):
                    for new in (0, amount - 1, amount + 1):
                        after = put(value, (index, 1), new)
                        wanted = is_right_bundle(net, one, other, after)
                        self.assertIs(accepts_bundle(net, one, other, after), wanted)
                    for at in range(len(path)):
                        for point in range(net[0] + 1):
                            after = put(value, (index, 0, at), point)
                            wanted = is_right_bundle(net, one, other, after)
                            self.assertIs(accepts_bundle(net, one, other, after), wanted)


class TestAmounts(unittest.TestCase):
    def accepted(self, net, one, other, amount):
        """Tell which words have evidence, told by all fences and by the bundle cut down to the amount."""
        least = least_width(net, [(one, other)])
        weak = [fence for fence in masks(net[0]) if accepts_amount(net, one, other, amount, ("fence", fence))]
        wanted = [fence for fence in parting(net, [(one, other)]) if sum_across(net[1], fence) < amount]
        self.assertEqual(weak, wanted)
        return "ways" if amount <= least else "fence"

    def test_evidence(self):
        for net, one, other in cases():
            top = least_width(net, [(one, other)])
            for amount in sorted({0, 1, max(top - 1, 0), top, top + 1, 40}):
                found = amount_evidence(net, one, other, amount)
                self.assertIs(type(found), tuple)
                self.assertEqual(found[0], self.accepted(net, one, other, amount))
                self.assertIs(accepts_amount(net, one, other, amount, found), True)
                if found[0] == "ways":
                    self.assertTrue(is_right_bundle(net, one, other, found[1]))
                    self.assertEqual(carried(found[1]), amount)
                else:
                    self.assertIn(found[1], parting(net, [(one, other)]))
                    self.assertLess(sum_across(net[1], found[1]), amount)

    def test_each_amount_of_one_net(self):
        for amount in range(41):
            word = amount_evidence(FIRST, 0, 3, amount)[0]
            self.assertEqual(word, "ways" if amount <= 3 else "fence")

    def test_nothing_at_all(self):
        for net, one, other in cases():
            self.assertEqual(amount_evidence(net, one, other, 0), ("ways", ()))
            self.assertIs(accepts_amount(net, one, other, 0, ("ways", ())), True)
            self.assertIs(accepts_amount(net, one, other, 1, ("ways", ())), False)

    def test_evidence_about_another_amount(self):
        for net, one, other in cases()[::3]:
            top = most(net, one, other)
            found = ("ways", bundle(net, one, other))
            for amount in range(41):
                self.assertIs(accepts_amount(net, one, other, amount, found), amount == top)

    def test_example(self):
        self.assertIs(accepts_amount(FIRST, 0, 3, 3, ("ways", THREE)), True)
        self.assertIs(accepts_amount(FIRST, 0, 3, 2, ("ways", THREE)), False)
        self.assertIs(accepts_amount(FIRST, 0, 3, 4, ("fence", (2, 3))), True)
        self.assertIs(accepts_amount(FIRST, 0, 3, 3, ("fence", (2, 3))), False)
        self.assertIs(accepts_amount(FIRST, 0, 3, 4, ("fence", (1, 2))), False)
        self.assertIs(accepts_amount(FIRST, 0, 3, 40, ("fence", (1, 2))), False)
        self.assertIs(accepts_amount(FIRST, 0, 3, 40, ("fence", (1, 3))), True)

    def test_parts_left_out_or_doubled(self):
        for value in shortened(THREE):
            self.assertIs(accepts_amount(FIRST, 0, 3, 3, ("ways", value)), False)
            self.assertIs(accepts_amount(FIRST, 0, 3, 2, ("ways", value)), True)
        for value in doubled(THREE):
            self.assertIs(accepts_amount(FIRST, 0, 3, 3, ("ways", value)), False)
            self.assertIs(accepts_amount(FIRST, 0, 3, 4, ("ways", value)), False)
        for value in shuffled(THREE):
            self.assertIs(accepts_amount(FIRST, 0, 3, 3, ("ways", value)), True)

    def test_a_path_with_the_amount_0(self):
        self.assertIs(accepts_amount(FIRST, 0, 3, 0, ("ways", (((0, 1, 3), 0),))), False)
        self.assertIs(accepts_amount(FIRST, 0, 3, 3, ("ways", (*THREE, ((0, 1, 3), 0)))), False)

    def test_other_forms(self):
        right = ((3, ("ways", THREE)), (0, ("ways", ())), (4, ("fence", (1, 2, 3))), (40, ("fence", (3,))))
        for amount, value in right:
            self.assertIs(accepts_amount(FIRST, 0, 3, amount, value), True)
            for other in in_other_forms(value) + shortened(value) + doubled(value) + [value[::-1]]:
                self.assertIs(accepts_amount(FIRST, 0, 3, amount, other), False)

    def test_wrong_fences_and_words(self):
        for fence in ((), (0,), (0, 1), (4,), (3, 2), (3, 3), (0, 1, 2, 3), (-1,), (1,), (2,), (1, 2), (True, 3), [3],
                      3):
            self.assertIs(accepts_amount(FIRST, 0, 3, 40, ("fence", fence)), False)
        for word in ("way", "Ways", "fences", "lengths", "", None, b"fence", ("fence",), 0):
            for told in ((3,), THREE, ()):
                self.assertIs(accepts_amount(FIRST, 0, 3, 40, (word, told)), False)
        self.assertIs(accepts_amount(FIRST, 0, 3, 3, ("fence", THREE)), False)
        self.assertIs(accepts_amount(FIRST, 0, 3, 4, ("ways", (3,))), False)

    def test_other_kinds(self):
        for value in ODD_KINDS:
            for amount in (0, 3, 4, 40):
                self.assertIs(accepts_amount(FIRST, 0, 3, amount, value), False)
                self.assertIs(accepts_amount(FIRST, 0, 3, amount, (value, ())), False)
                self.assertIs(accepts_amount(FIRST, 0, 3, amount, (value, (3,))), False)
                self.assertIs(accepts_amount(FIRST, 0, 3, amount, ("ways", value)), False)
                self.assertIs(accepts_amount(FIRST, 0, 3, amount, ("fence", value)), False)


class TestLeastFences(unittest.TestCase):
    def sides_of(self, net, one, other):
        """Return the sides of all least fences, as sets."""
        found = []
        for fence in least_fences(net, one, other):
            found.append({point for point in range(net[0]) if (point in fence) == (one in fence)})
        return found

    def test_examples(self):
        self.assertEqual(least_fences(FIRST, 0, 3), [(1, 2, 3), (2, 3), (3,)])
        self.assertEqual(sides(FIRST, 0, 3), ((0,), (0, 1, 2)))
        self.assertEqual((least_fences(SECOND, 0, 2), sides(SECOND, 0, 2)), ([(2, 3)], ((0, 1), (0, 1))))
        self.assertEqual((least_fences(BARE, 0, 1), sides(BARE, 0, 1)), ([(1,)], ((0,), (0,))))
        self.assertEqual(sides(RING, 1, 2), ((1,), (0, 1, 3)))
        self.assertEqual(sides(TWO_PARTS, 1, 3), ((1, 2, 6), (1, 2, 6)))
        self.assertEqual(sides((4, ((0, 1, 1),)), 0, 2), ((0, 1), (0, 1, 3)))

    def test_all_of_them_in_order(self):
        for net, one, other in cases():
            found = least_fences(net, one, other)
            least = least_width(net, [(one, other)])
            wanted = [fence for fence in parting(net, [(one, other)]) if sum_across(net[1], fence) == least]
            self.assertIs(type(found), list)
            self.assertEqual(found, wanted)

    def test_the_near_side_and_the_far_side(self):
        for net, one, other in cases():
            found = self.sides_of(net, one, other)
            near, far = sides(net, one, other)
            self.assertEqual((type(near), type(far)), (tuple, tuple))
            self.assertEqual((near, far), (tuple(sorted(near)), tuple(sorted(far))))
            self.assertIn(one, near)
            self.assertNotIn(other, far)
            self.assertIn(set(near), found)
            self.assertIn(set(far), found)
            self.assertTrue(all(set(near) <= side <= set(far) for side in found))

    def test_points_in_both_sides_and_in_one_of_them(self):
        for net, one, other in cases()[::3]:
            found = self.sides_of(net, one, other)
            for side in found:
                for beside in found:
                    self.assertIn(side & beside, found)
                    self.assertIn(side | beside, found)

    def test_a_list_that_is_changed_changes_no_later_answer(self):
        found = least_fences(FIRST, 0, 3)
        found.clear()
        found.append("x")
        self.assertEqual(least_fences(FIRST, 0, 3), [(1, 2, 3), (2, 3), (3,)])
        self.assertEqual((most(FIRST, 0, 3), sides(FIRST, 0, 3)), (3, ((0,), (0, 1, 2))))


class TestRoadsThatMatter(unittest.TestCase):
    def test_examples(self):
        self.assertEqual((narrower_roads(FIRST, 0, 3), wider_roads(FIRST, 0, 3)), ((0, 1, 2, 3, 4), ()))
        self.assertEqual((narrower_roads(SECOND, 0, 2), wider_roads(SECOND, 0, 2)), ((1, 2), (1, 2)))
        self.assertEqual((narrower_roads(ROW, 0, 2), wider_roads(ROW, 0, 2)), ((1,), (1,)))
        self.assertEqual((narrower_roads(BARE, 0, 1), wider_roads(BARE, 0, 1)), ((), ()))
        self.assertEqual((narrower_roads(TWO_PARTS, 0, 1), wider_roads(TWO_PARTS, 0, 1)), ((), ()))
        self.assertEqual((narrower_roads(TWO_PARTS, 0, 5), wider_roads(TWO_PARTS, 0, 5)), ((3,), (3,)))

    def test_held_against_the_most_of_the_changed_net(self):
        seen = []
        for net, one, other in cases():
            before = least_width(net, [(one, other)])
            narrower, wider = narrower_roads(net, one, other), wider_roads(net, one, other)
            self.assertEqual((type(narrower), type(wider)), (tuple, tuple))
            numbers = range(len(net[1]))
            less = [least_width(changed_road(net, index, -1), [(one, other)]) for index in numbers]
            more = [least_width(changed_road(net, index, 1), [(one, other)]) for index in numbers]
            self.assertEqual(narrower, tuple(index for index in numbers if less[index] == before - 1))
            self.assertEqual(wider, tuple(index for index in numbers if more[index] == before + 1))
            self.assertTrue(all(before - 1 <= number <= before for number in less))
            self.assertTrue(all(before <= number <= before + 1 for number in more))
            seen += [(net[1][index][2], index in narrower, index in wider) for index in numbers]
        for width in (1, 6):
            self.assertIn((width, True, True), seen)
            self.assertIn((width, True, False), seen)
            self.assertIn((width, False, False), seen)

    def test_held_against_most_itself(self):
        for net, one, other in cases()[::5]:
            for index, road in enumerate(net[1]):
                less = most(changed_road(net, index, -1), one, other)
                self.assertEqual(less, most(net, one, other) - (index in narrower_roads(net, one, other)))
                if road[2] < 6:
                    more = most(changed_road(net, index, 1), one, other)
                    self.assertEqual(more, most(net, one, other) + (index in wider_roads(net, one, other)))

    def test_a_new_road(self):
        for net, one, other in cases()[::3]:
            joined = [road[:2] for road in net[1]]
            found = least_fences(net, one, other)
            for pair in combinations(range(net[0]), 2):
                if pair in joined or len(joined) == 15:
                    continue
                every = all(crosses(pair, fence) for fence in found)
                self.assertEqual(most(with_road(net, *pair), one, other), most(net, one, other) + every)


if __name__ == "__main__":
    unittest.main()
