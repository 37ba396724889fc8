"""Points 34 to 44: amounts for two pairs of points that go together, their bounds and evidence about them."""

import random
import unittest
from itertools import combinations, permutations, product

from changes import doubled, in_other_forms, put, shortened, shuffled
from judges import are_right_ways, as_fraction, changed_road, least_width, parting
from samples import FULL, ODD_KINDS, RING, ROW, TWO_PARTS, masks, sum_across, tasks
from wishshapes.errors import NotPossible
from wishshapes.nets import is_net, parts
from wishshapes.pairs import (accepts_together, bound_fences, bounds, count_amounts, go_together, greatest_amounts,
                              most_beside, together_evidence)

NET = (4, ((0, 1, 2), (0, 2, 1), (1, 2, 1), (1, 3, 1), (2, 3, 2)))
DOUBLE_RING = (4, tuple((one, other, 2) for one, other, _ in RING[1]))
HALVES = ((0, (0, 1, 2), (1, 2)), (0, (0, 3, 2), (1, 2)), (1, (1, 0, 3), (1, 2)), (1, (1, 2, 3), (1, 2)))
ACROSS = (RING, (0, 2), (1, 3))
WIDE = (7, tuple((0, other, 6) for other in range(1, 7)) + tuple((one, 6, 6) for one in range(1, 6)))


def cases(many=150, seed=7):
    """Return triples of a net of 3 to 7 points and two different pairs of its points."""
    chance = random.Random(seed)
    found = [ACROSS, (RING, (1, 3), (0, 2)), (DOUBLE_RING, (0, 2), (1, 3)), (ROW, (0, 2), (0, 1)),
             (ROW, (0, 1), (1, 2)), (TWO_PARTS, (0, 3), (1, 2)), (TWO_PARTS, (0, 1), (4, 5)), (FULL, (0, 6), (1, 5)),
             ((4, ()), (0, 1), (2, 3)), (WIDE, (0, 6), (1, 2)), (WIDE, (0, 6), (0, 5)), (WIDE, (1, 6), (0, 2))]
    nets = [net for net, _ in tasks(60, 8) if net[0] > 2]
    while len(found) < many:
        net = nets[len(found) % len(nets)]
        pair, other = chance.sample(list(combinations(range(net[0]), 2)), 2)
        found.append((net, pair, other))
    return found


def even_cases(many=40, seed=9):
    """Return tuples of a net, two pairs and amounts of which each point has an even sum."""
    chance = random.Random(seed)
    found = [(DOUBLE_RING, (0, 2), (1, 3), (2, 2)), (RING, (0, 2), (1, 3), (2, 0)), (RING, (0, 1), (2, 3), (0, 2))]
    while len(found) < many:
        points = chance.randint(3, 7)
        widths = {}
        for _ in range(chance.randint(1, 6)):
            ring = chance.sample(range(points), chance.randint(3, points))
            for here, there in zip(ring, ring[1:] + ring[:1]):
                widths[min(here, there), max(here, there)] = widths.get((min(here, there), max(here, there)), 0) + 1
        pair, other = chance.sample(list(combinations(range(points), 2)), 2)
        amounts = (2 * chance.randint(0, 3), 2 * chance.randint(0, 3))
        if chance.random() < 0.7:
            # A road beside each wish makes its points even for an odd amount.
            amounts = (amounts[0] + 1, amounts[1] + 1)
            for road in (pair, other):
                widths[road] = widths.get(road, 0) + 1
        net = (points, tuple((one, two, widths[one, two]) for one, two in sorted(widths)))
        if is_net(net):
            found.append((net, pair, other, amounts))
    return found


def three_bounds(net, pair, other):
    """Return the bounds, by going through all fences."""
    return least_width(net, [pair]), least_width(net, [other]), least_width(net, [pair, other])


def goes(net, pair, other, amounts):
    """Tell whether no fence has less width than the amounts of the pairs that it parts."""
    wishes = ((*pair, amounts[0]), (*other, amounts[1]))
    return all(sum_across(net[1], fence) >= sum_across(wishes, fence) for fence in masks(net[0]))


def some_amounts(net, pair, other):
    """Return amounts below the bounds, at them and above them."""
    first, second, both = three_bounds(net, pair, other)
    ones = sorted({0, 1, first // 2, max(first - 1, 0), first, first + 1, 40})
    others = sorted({0, 1, second // 2, max(second - 1, 0), second, second + 1, 40})
    top = [(both - amount, amount) for amount in range(second + 1) if both - amount >= 0]
    return list(dict.fromkeys(list(product(ones, others)) + top + [(one + 1, other) for one, other in top]))


class TestBounds(unittest.TestCase):
    def test_examples(self):
        self.assertEqual((bounds(*ACROSS), bound_fences(*ACROSS)), ((2, 2, 2), ((1, 2), (1,), (1, 2))))
        self.assertEqual((bounds(NET, (0, 3), (1, 2)), bounds(NET, (0, 3), (0, 1))), ((3, 3, 3), (3, 3, 3)))
        self.assertEqual(bounds(ROW, (0, 1), (1, 2)), (6, 5, 11))
        self.assertEqual(bounds(WIDE, (0, 6), (1, 2)), (36, 12, 36))

    def test_least_widths_and_first_fences(self):
        for net, pair, other in cases():
            found, told = bounds(net, pair, other), bound_fences(net, pair, other)
            self.assertEqual((type(found), type(told)), (tuple, tuple))
            self.assertEqual(found, three_bounds(net, pair, other))
            for fence, bound, asked in zip(told, found, ([pair], [other], [pair, other])):
                wanted = [fence for fence in parting(net, asked) if sum_across(net[1], fence) == bound]
                self.assertEqual(fence, wanted[0])

    def test_the_third_bound(self):
        apart = 0
        for net, pair, other in cases():
            first, second, both = bounds(net, pair, other)
            self.assertTrue(max(first, second) <= both <= first + second)
            marks = [set(part) for part in parts(net)]
            hang = any(part & set(pair) and part & set(other) for part in marks)
            if not hang and not set(pair) & set(other):
                self.assertEqual(both, first + second)
                apart += 1
        self.assertGreater(apart, 1)

    def test_pairs_exchanged(self):
        for net, pair, other in cases():
            first, second, both = bounds(net, pair, other)
            self.assertEqual(bounds(net, other, pair), (second, first, both))
            fences = bound_fences(net, pair, other)
            self.assertEqual(bound_fences(net, other, pair), (fences[1], fences[0], fences[2]))

    def test_a_road_wider_or_narrower(self):
        for net, pair, other in cases(60):
            before = bounds(net, pair, other)
            for index, road in enumerate(net[1]):
                after = bounds(changed_road(net, index, -1), pair, other)
                self.assertTrue(all(old - 1 <= new <= old for old, new in zip(before, after)))
                if road[2] < 6:
                    after = bounds(changed_road(net, index, 1), pair, other)
                    self.assertTrue(all(old <= new <= old + 1 for old, new in zip(before, after)))


class TestTogether(unittest.TestCase):
    def check(self, net, pair, other, amounts):
        wishes = ((*pair, amounts[0]), (*other, amounts[1]))
        right = goes(net, pair, other, amounts)
        self.assertIs(go_together(net, pair, other, amounts), right)
        found = together_evidence(net, pair, other, amounts)
        self.assertEqual((type(found), found[0]), (tuple, "ways" if right else "fence"))
        self.assertIs(accepts_together(net, pair, other, amounts, found), True)
        if right:
            self.assertTrue(are_right_ways(net, wishes, found[1]))
            factor = 2
            sums = [sum(link[2] for link in net[1] + wishes if point in link[:2]) for point in range(net[0])]
            if all(total % 2 == 0 for total in sums):
                factor = 1
            self.assertTrue(all(amount[1] <= factor and amount[0] > 0 for _, _, amount in found[1]))
        else:
            self.assertIn(found[1], masks(net[0]))
            self.assertLess(sum_across(net[1], found[1]), sum_across(wishes, found[1]))

    def test_amounts_at_the_bounds_and_above_them(self):
        for net, pair, other in cases():
            for amounts in some_amounts(net, pair, other):
                self.check(net, pair, other, amounts)

    def test_even_nets(self):
        for net, pair, other, amounts in even_cases():
            sums = [sum(link[2] for link in net[1] if point in link[:2]) for point in range(net[0])]
            for one, two, amount in ((*pair, amounts[0]), (*other, amounts[1])):
                sums[one], sums[two] = sums[one] + amount, sums[two] + amount
            self.assertTrue(all(total % 2 == 0 for total in sums))
            self.check(net, pair, other, amounts)

    def test_whole_ways_where_all_is_even(self):
        whole = 0
        for net, pair, other, amounts in even_cases():
            word, told = together_evidence(net, pair, other, amounts)
            if word == "ways":
                self.assertTrue(all(amount[1] == 1 for _, _, amount in told))
                whole += len(told) > 1
        self.assertGreater(whole, 5)

    def test_every_amounts_on_the_ring(self):
        for amounts in product(range(4), repeat=2):
            self.assertIs(go_together(*ACROSS, amounts), sum(amounts) <= 2)
            self.check(*ACROSS, amounts)

    def test_no_amounts(self):
        for net, pair, other in cases():
            self.assertIs(go_together(net, pair, other, (0, 0)), True)
            self.assertEqual(together_evidence(net, pair, other, (0, 0)), ("ways", ()))

    def test_point_44(self):
        self.assertEqual(bounds(*ACROSS), (2, 2, 2))
        word, told = together_evidence(*ACROSS, (1, 1))
        self.assertEqual((word, {amount for _, _, amount in told}), ("ways", {(1, 2)}))
        whole = [((0, path, (1, 1)), (1, beside, (1, 1))) for path in ((0, 1, 2), (0, 3, 2))
                 for beside in ((1, 0, 3), (1, 2, 3))]
        for ways in whole:
            self.assertIs(accepts_together(*ACROSS, (1, 1), ("ways", ways)), False)
        word, told = together_evidence(DOUBLE_RING, (0, 2), (1, 3), (2, 2))
        self.assertEqual((word, {amount[1] for _, _, amount in told}), ("ways", {1}))

    def test_examples(self):
        self.assertEqual(together_evidence(NET, (0, 3), (1, 2), (2, 1))[0], "ways")
        self.assertEqual(together_evidence(NET, (0, 3), (1, 2), (3, 1))[0], "fence")
        self.assertIs(go_together(NET, (0, 3), (1, 2), (3, 1)), False)
        self.assertIs(go_together(NET, (0, 3), (1, 2), (2, 1)), True)


class TestAccepted(unittest.TestCase):
    def accepted(self, amounts, ways, wanted):
        with self.subTest(amounts=amounts, ways=ways):
            self.assertIs(accepts_together(*ACROSS, amounts, ("ways", ways)), wanted)

    def test_halves(self):
        self.accepted((1, 1), HALVES, True)
        for ways in permutations(HALVES):
            self.accepted((1, 1), ways, True)
        for amounts in ((0, 0), (1, 0), (0, 1), (2, 1), (1, 2), (2, 2), (40, 40)):
            self.accepted(amounts, HALVES, False)

    def test_exchanged_pairs(self):
        back = tuple((1 - index, path, amount) for index, path, amount in HALVES)
        self.assertIs(accepts_together(RING, (1, 3), (0, 2), (1, 1), ("ways", back)), True)
        self.assertIs(accepts_together(RING, (1, 3), (0, 2), (1, 1), ("ways", HALVES)), False)

    def test_an_amount_of_0_has_no_ways(self):
        self.accepted((1, 0), HALVES[:2], True)
        self.accepted((0, 1), HALVES[2:], True)
        self.accepted((0, 0), (), True)
        self.accepted((1, 0), (), False)
        self.accepted((0, 0), HALVES[:1], False)

    def test_left_out_or_doubled(self):
        for ways in shortened(HALVES) + doubled(HALVES):
            self.accepted((1, 1), ways, False)
        self.accepted((2, 0), HALVES[:2] * 2, True)

    def test_the_same_path_twice(self):
        quarters = tuple((index, path, (1, 4)) for index, path, _ in HALVES)
        self.accepted((1, 1), quarters * 2, True)
        self.accepted((1, 1), quarters, False)
        self.accepted((1, 1), HALVES[:3] + 2 * ((1, (1, 2, 3), (1, 4)),), True)
        self.accepted((1, 0), 2 * ((0, (0, 1, 2), (1, 2)),), True)
        self.accepted((2, 0), 2 * ((0, (0, 1, 2), (1, 1)),), False)

    def test_other_fractions(self):
        thirds = ((0, (0, 1, 2), (1, 3)), (0, (0, 3, 2), (2, 3)), (1, (1, 0, 3), (1, 3)))
        self.accepted((1, 1), thirds + ((1, (1, 2, 3), (2, 3)),), False)
        self.assertIs(accepts_together(DOUBLE_RING, (0, 2), (1, 3), (1, 1), ("ways", thirds + (
            (1, (1, 2, 3), (2, 3)),))), True)
        self.accepted((1, 0), thirds[:2], True)
        self.accepted((1, 0), (thirds[0], (0, (0, 3, 2), (10 ** 40 - 1, 10 ** 40))), False)
        large = 10 ** 30
        self.accepted((1, 0), ((0, (0, 1, 2), (1, large)), (0, (0, 3, 2), (large - 1, large))), True)

    def test_fractions_of_wrong_forms(self):
        for wrong in ((2, 4), (0, 1), (1, 0), (0, 0), (-1, -2), (1, -2), (-1, 2), [1, 2], 1, 0.5, (1,), (1, 2, 1),
                      (True, 2), (1, 2.0), "12", None, ("1", "2"), (1, None), (3, 6), (10 ** 40, 2 * 10 ** 40)):
            self.accepted((1, 1), put(HALVES, (0, 2), wrong), False)
            self.accepted((1, 1), put(HALVES, (3, 2), wrong), False)
            self.accepted((1, 1), HALVES + 2 * ((0, (0, 1, 2), wrong),), False)
        for wrong in (1, (2, 2), [1, 1], (1,), (True, 1), (1, True), (1.0, 1), (-1, -1), None):
            self.accepted((1, 0), ((0, (0, 1, 2), wrong),), False)
        self.accepted((1, 0), ((0, (0, 1, 2), (1, 1)),), True)

    def test_indexes(self):
        for wrong in (-1, -2, 2, 3, True, False, None, 0.0, "0", (0,), 10 ** 30):
            for place in range(4):
                self.accepted((1, 1), put(HALVES, (place, 0), wrong), False)
        self.accepted((1, 0), ((-2, (0, 1, 2), (1, 1)),), False)
        self.accepted((0, 1), ((-1, (1, 2, 3), (1, 1)),), False)

    def test_paths(self):
        for wrong in ((0, 2), (2, 1, 0), (0, 1), (1, 2), (0, 1, 3, 2), (0, 1, 0, 3, 2), (0, 1, 1, 2), (0, 1, 2, 3),
                      (0,), (), [0, 1, 2], (0, True, 2), (False, 1, 2), (0, 1, 2.0), (0, 4, 2), (0, -3, 2),
                      (0, 1, 2, 3, 0, 1, 2), "012"):
            self.accepted((1, 1), put(HALVES, (0, 1), wrong), False)
            self.accepted((1, 0), ((0, wrong, (1, 1)),), False)

    def test_one_number_changed(self):
        for net, pair, other in cases(40):
            amounts = greatest_amounts(net, pair, other)[0]
            word, told = together_evidence(net, pair, other, amounts)
            wishes = ((*pair, amounts[0]), (*other, amounts[1]))
            for place, (index, path, amount) in enumerate(told):
                changed = [put(told, (place, 0), 1 - index), put(told, (place, 1), path[::-1])]
                changed += [put(told, (place, 1, at), point) for at in range(len(path)) for point in range(net[0])]
                changed += [put(told, (place, 2), fraction) for fraction in ((1, 2), (1, 1), (3, 2), (2, 1), (1, 3))]
                for ways in changed:
                    wanted = are_right_ways(net, wishes, ways)
                    self.assertIs(accepts_together(net, pair, other, amounts, ("ways", ways)), wanted)

    def test_every_fence(self):
        for net, pair, other in cases(60):
            for amounts in some_amounts(net, pair, other)[::3]:
                wishes = ((*pair, amounts[0]), (*other, amounts[1]))
                weak = [fence for fence in masks(net[0]) if sum_across(net[1], fence) < sum_across(wishes, fence)]
                found = [fence for fence in masks(net[0])
                         if accepts_together(net, pair, other, amounts, ("fence", fence))]
                self.assertEqual(found, weak)

    def test_a_fence_that_parts_one_pair_or_none(self):
        row = (4, ((0, 1, 1), (1, 2, 1)))
        self.assertIs(accepts_together(row, (0, 1), (1, 2), (2, 1), ("fence", (1, 2, 3))), True)
        self.assertIs(accepts_together(row, (0, 1), (1, 2), (2, 1), ("fence", (1,))), True)
        self.assertIs(accepts_together(row, (0, 1), (1, 2), (2, 1), ("fence", (2,))), False)
        self.assertIs(accepts_together(row, (0, 1), (1, 2), (2, 1), ("fence", (3,))), False)
        self.assertIs(accepts_together(row, (0, 1), (1, 2), (1, 1), ("fence", (1,))), False)

    def test_wrong_fences(self):
        for fence in ((), (0,), (0, 2), (2, 1), (1, 1, 2), (4,), (-1,), [1, 2], (True, 2), (1, 2, 3, 4), 1, None):
            self.assertIs(accepts_together(*ACROSS, (40, 40), ("fence", fence)), False)
        self.assertIs(accepts_together(*ACROSS, (40, 40), ("fence", (1, 3))), False)
        self.assertIs(accepts_together(*ACROSS, (2, 1), ("fence", (2, 3))), True)
        self.assertIs(accepts_together(*ACROSS, (1, 1), ("fence", (2, 3))), False)

    def test_other_forms_and_kinds(self):
        for amounts, value in (((1, 1), ("ways", HALVES)), ((0, 0), ("ways", ())), ((2, 1), ("fence", (1, 2)))):
            wrong = in_other_forms(value) + shortened(value) + doubled(value) + shuffled(value)
            wrong += [*ODD_KINDS, ("fence", HALVES), ("ways", (1, 2)), ("fence", ()), ("together", value[1])]
            wrong += [(word, kind) for kind in ODD_KINDS for word in ("ways", "fence")]
            wrong += [(kind, value[1]) for kind in ODD_KINDS]
            for other in wrong:
                self.assertIs(accepts_together(*ACROSS, amounts, other), False)
        for place in ((1, 0), (1, 0, 0), (1, 0, 1), (1, 0, 2), (1, 0, 1, 1), (1, 0, 2, 0), (1, 3, 2, 1)):
            for kind in ODD_KINDS:
                value = put(("ways", HALVES), place, kind)
                self.assertIs(accepts_together(*ACROSS, (1, 1), value), False)


class TestGreatest(unittest.TestCase):
    def all_amounts(self, net, pair, other):
        """Return all amounts that go together, by going through the bounds."""
        first, second, both = three_bounds(net, pair, other)
        return [(one, two) for one in range(first + 1) for two in range(second + 1) if one + two <= both]

    def test_examples(self):
        self.assertEqual((greatest_amounts(*ACROSS), count_amounts(*ACROSS)), ([(0, 2), (1, 1), (2, 0)], 6))
        self.assertEqual(greatest_amounts(ROW, (0, 1), (1, 2)), [(6, 5)])
        self.assertEqual(count_amounts(ROW, (0, 1), (1, 2)), 42)
        self.assertEqual(greatest_amounts((4, ()), (0, 1), (2, 3)), [(0, 0)])
        self.assertEqual(count_amounts((4, ()), (0, 1), (2, 3)), 1)

    def test_all_greatest_amounts(self):
        for net, pair, other in cases():
            every = self.all_amounts(net, pair, other)
            inside = dict.fromkeys(every)
            wanted = [(one, two) for one, two in every if (one + 1, two) not in inside and (one, two + 1) not in inside]
            found = greatest_amounts(net, pair, other)
            self.assertIs(type(found), list)
            self.assertEqual(found, wanted)
            first, second, both = bounds(net, pair, other)
            self.assertEqual(len(found), first + second - both + 1)
            self.assertEqual(count_amounts(net, pair, other), len(every))

    def test_count_goes_through_go_together(self):
        for net, pair, other in cases(30)[10:]:
            first, second, _ = bounds(net, pair, other)
            asked = product(range(min(first + 2, 41)), range(min(second + 2, 41)))
            going = [amounts for amounts in asked if go_together(net, pair, other, amounts)]
            self.assertEqual(len(going), count_amounts(net, pair, other))

    def test_exchanged_pairs(self):
        for net, pair, other in cases():
            back = sorted((two, one) for one, two in greatest_amounts(net, pair, other))
            self.assertEqual(greatest_amounts(net, other, pair), back)
            self.assertEqual(count_amounts(net, other, pair), count_amounts(net, pair, other))

    def test_a_list_that_is_changed_changes_no_later_answer(self):
        found = greatest_amounts(*ACROSS)
        found[0] = None
        found.append((9, 9))
        self.assertEqual(greatest_amounts(*ACROSS), [(0, 2), (1, 1), (2, 0)])

    def test_most_beside(self):
        self.assertEqual(most_beside(NET, (0, 3), (1, 2), 1), 2)
        for net, pair, other in cases():
            first, second, both = three_bounds(net, pair, other)
            for amount in range(second + 1):
                found = most_beside(net, pair, other, amount)
                self.assertEqual(found, min(first, both - amount))
                self.assertTrue(goes(net, pair, other, (found, amount)))
                self.assertFalse(goes(net, pair, other, (found + 1, amount)))

    def test_most_beside_too_much(self):
        for net, pair, other in cases(30):
            second = bounds(net, pair, other)[1]
            for amount in sorted({second + 1, 40}):
                with self.assertRaises(NotPossible) as caught:
                    most_beside(net, pair, other, amount)
                self.assertEqual(caught.exception.why, "amount")


class TestSamples(unittest.TestCase):
    def test_ways_with_fractions_add_up(self):
        self.assertEqual(sum(as_fraction(amount) for _, _, amount in HALVES), 2)
        self.assertTrue(are_right_ways(RING, ((0, 2, 1), (1, 3, 1)), HALVES))


if __name__ == "__main__":
    unittest.main()
