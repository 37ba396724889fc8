"""Points 93 to 103: ends, their reaches, links between them, and evidence about the greatest total."""

import random
import unittest
from fractions import Fraction
from itertools import combinations, permutations

from changes import doubled, form_of, in_other_forms, put, shortened, shuffled
from judges import as_fraction, fit_in, is_right_path, with_road
from samples import FULL, ODD_KINDS, RING, TWO_PARTS, masks, sum_across
from small import some_net
from wishshapes.ends import accepts_ends, ends_evidence, greatest_total, reach
from wishshapes.errors import BadValue, TooLarge

STAR = (4, ((0, 3, 1), (1, 3, 1), (2, 3, 1)))
DOUBLE_STAR = (4, ((0, 3, 2), (1, 3, 2), (2, 3, 2)))
THREE = (0, 1, 2)
HALVES = (((0, 3, 1), (1, 2)), ((0, 3, 2), (1, 2)), ((1, 3, 2), (1, 2)))
TOLD = ((1, 2, 3), (1,), (2,))


def end_tasks(many=200, seed=70):
    """Return pairs of a net of up to 6 points and 9 roads and 2 to 5 ends of it."""
    chance = random.Random(seed)
    found = [(STAR, THREE), (DOUBLE_STAR, THREE), ((2, ()), (0, 1)), (RING, (0, 2)), ((6, ()), (1, 2, 3, 4, 5)),
             ((5, ((0, 1, 6), (2, 3, 1))), (0, 1, 2, 3, 4))]
    while len(found) < many:
        points = 2 + len(found) % 5
        net = some_net(points, chance, chance.choice((2, 6)))
        if chance.random() < 0.3:
            net = (points, net[1][::2])
        found.append((net, tuple(sorted(chance.sample(range(points), chance.randint(2, min(5, points)))))))
    return found


def parts_from_others(ends, end, fence):
    """Tell whether the fence, or all points beside it, has this end alone of all ends."""
    inside, outside = set(ends) & set(fence), set(ends) - set(fence)
    return {end} in (inside, outside)


def told_fences(net, ends, end):
    """Return the least width of the fences that part the end from the others, and all fences that have it."""
    found = [fence for fence in masks(net[0]) if parts_from_others(ends, end, fence)]
    least = min(sum_across(net[1], fence) for fence in found)
    return least, [fence for fence in found if sum_across(net[1], fence) == least]


def even_inside(net, ends):
    """Tell whether the widths at each point that is no end add up to an even number."""
    sums = [sum(road[2] for road in net[1] if point in road[:2]) for point in range(net[0])]
    return all(sums[point] % 2 == 0 for point in range(net[0]) if point not in ends)


def all_links(net, ends):
    """Return all links between the ends."""
    inner = [point for point in range(net[0]) if point not in ends]
    found = [(one, *some, other) for one, other in combinations(ends, 2) for many in range(len(inner) + 1)
             for some in permutations(inner, many)]
    return [path for path in found if is_right_path(net, path[0], path[-1], path)]


def greatest_whole(net, ends):
    """Return the greatest total of whole links, found by trying all of them; only for small nets."""
    paths = all_links(net, ends)

    def best(at, widths):
        if at == len(paths):
            return 0
        along = [tuple(sorted(pair)) for pair in zip(paths[at], paths[at][1:])]
        most = min(widths[step] for step in along)
        totals = []
        for amount in range(most + 1):
            left = dict(widths)
            for step in along:
                left[step] -= amount
            totals.append(amount + best(at + 1, left))
        return max(totals)
    return best(0, {road[:2]: road[2] for road in net[1]})


class TestReach(unittest.TestCase):
    def test_examples(self):
        self.assertEqual((reach(STAR, THREE, 0), reach(STAR, THREE, 1)), ((1, (1, 2, 3)), (1, (1,))))
        self.assertEqual(reach(STAR, (0, 1), 0), (1, (1,)))
        self.assertEqual(reach((2, ()), (0, 1), 1), (0, (1,)))

    def test_all_fences_gone_through(self):
        for net, ends in end_tasks():
            for end in ends:
                least, fences = told_fences(net, ends, end)
                self.assertEqual(reach(net, ends, end), (least, fences[0]))

    def test_the_first_of_several_fences(self):
        several = [1 for net, ends in end_tasks() for end in ends if len(told_fences(net, ends, end)[1]) > 1]
        self.assertGreater(len(several), 50)

    def test_two_ends_have_the_same_reach(self):
        for net, ends in end_tasks():
            if len(ends) == 2:
                self.assertEqual(reach(net, ends, ends[0]), reach(net, ends, ends[1]))

    def test_nets_of_seven_points_and_many_roads(self):
        for net in (FULL, TWO_PARTS):
            for ends in ((0, 6), (1, 2, 3), (0, 2, 4, 6), (2, 3, 4, 5, 6)):
                for end in ends:
                    least, fences = told_fences(net, ends, end)
                    self.assertEqual(reach(net, ends, end), (least, fences[0]))

    def test_an_end_is_one_of_the_ends(self):
        for end in (3, 4, -1, True, 0.0, None):
            with self.assertRaises(BadValue) as caught:
                reach(STAR, THREE, end)
            self.assertEqual(caught.exception.name, "end")


class TestTotal(unittest.TestCase):
    def test_examples(self):
        self.assertEqual((greatest_total(STAR, THREE), greatest_total(STAR, (0, 1))), ((3, 2), (1, 1)))
        self.assertEqual(greatest_total((3, ((0, 1, 4), (1, 2, 3))), THREE), (7, 1))
        self.assertEqual(greatest_total((2, ()), (0, 1)), (0, 1))

    def test_point_103(self):
        self.assertEqual([reach(STAR, THREE, end)[0] for end in THREE], [1, 1, 1])
        self.assertEqual(greatest_total(STAR, THREE), (3, 2))
        links = ends_evidence(STAR, THREE)[0]
        self.assertEqual(sorted(links), sorted(HALVES))
        self.assertEqual(greatest_whole(STAR, THREE), 1)
        self.assertEqual(greatest_total(DOUBLE_STAR, THREE), (3, 1))
        links = ends_evidence(DOUBLE_STAR, THREE)[0]
        self.assertTrue(all(amount[1] == 1 for _, amount in links))
        self.assertEqual(greatest_whole(DOUBLE_STAR, THREE), 3)

    def test_half_of_the_sum_without_a_common_divisor(self):
        divisors = {1: 0, 2: 0}
        for net, ends in end_tasks():
            total = greatest_total(net, ends)
            half = Fraction(sum(told_fences(net, ends, end)[0] for end in ends), 2)
            self.assertEqual(total, (half.numerator, half.denominator))
            self.assertEqual([type(number) for number in total], [int, int])
            divisors[total[1]] += 1
        self.assertTrue(min(divisors.values()) > 10)

    def test_whole_links_go_as_far_only_where_all_is_even(self):
        less = 0
        for net, ends in end_tasks(60, 71):
            if sum(road[2] for road in net[1]) <= 8 and len(all_links(net, ends)) <= 6:
                whole, total = greatest_whole(net, ends), as_fraction(greatest_total(net, ends))
                self.assertLessEqual(whole, total)
                less += whole < total
                if even_inside(net, ends):
                    self.assertEqual(whole, total)
        self.assertGreater(less, 0)

    def test_two_ends(self):
        for net, _ in end_tasks():
            for one, other in combinations(range(net[0]), 2):
                widths = [sum_across(net[1], fence) for fence in masks(net[0]) if (one in fence) != (other in fence)]
                self.assertEqual(greatest_total(net, (one, other)), (min(widths), 1))

    def test_all_points_are_ends(self):
        for net, _ in end_tasks():
            if net[0] <= 5:
                total = sum(road[2] for road in net[1])
                self.assertEqual(greatest_total(net, tuple(range(net[0]))), (total, 1))

    def test_a_further_end_and_wider_or_more_roads(self):
        for net, ends in end_tasks(60, 72):
            total = as_fraction(greatest_total(net, ends))
            for point in range(net[0]):
                if point not in ends and len(ends) < 5:
                    more = tuple(sorted(ends + (point,)))
                    self.assertLessEqual(total, as_fraction(greatest_total(net, more)))
            for index, road in enumerate(net[1]):
                if road[2] < 6:
                    wider = as_fraction(greatest_total(put(net, (1, index, 2), road[2] + 1), ends))
                    self.assertTrue(total <= wider <= total + 1)
            for one, other in combinations(range(net[0]), 2):
                if (one, other) not in [road[:2] for road in net[1]]:
                    more = as_fraction(greatest_total(with_road(net, one, other), ends))
                    self.assertTrue(total <= more <= total + 1)


class TestEvidence(unittest.TestCase):
    def check(self, net, ends):
        """Tell whether the links of the told evidence, which must be right, are whole ones."""
        found = ends_evidence(net, ends)
        self.assertEqual(form_of(found)[1], [[int] * len(fence) for fence in found[1]])
        self.assertIs(accepts_ends(net, ends, found), True)
        links, fences = found
        self.assertEqual(fences, tuple(told_fences(net, ends, end)[1][0] for end in ends))
        loads = [(path, as_fraction(amount)) for path, amount in links]
        self.assertTrue(all(path in all_links(net, ends) for path, _ in links))
        self.assertTrue(all(amount > 0 and (2 * amount).denominator == 1 for _, amount in loads))
        self.assertTrue(all(amount == (as_fraction(amount).numerator, as_fraction(amount).denominator)
                            for _, amount in links))
        self.assertTrue(fit_in(net, loads))
        total = sum(amount for _, amount in loads)
        self.assertEqual(2 * total, sum(sum_across(net[1], fence) for fence in fences))
        self.assertEqual(total, as_fraction(greatest_total(net, ends)))
        whole = all(amount.denominator == 1 for _, amount in loads)
        if even_inside(net, ends):
            self.assertTrue(whole)
        return whole

    def test_examples(self):
        self.assertEqual(ends_evidence((2, ()), (0, 1)), ((), ((1,), (1,))))
        self.assertIs(accepts_ends(STAR, (0, 1), ends_evidence(STAR, (0, 1))), True)
        self.assertEqual(ends_evidence(STAR, THREE)[1], TOLD)

    def test_drawn_nets(self):
        whole = [self.check(net, ends) for net, ends in end_tasks()]
        self.assertTrue(10 < whole.count(False) and 10 < whole.count(True))

    def test_even_nets(self):
        for net, ends in end_tasks(80, 73):
            points, roads = net
            doubles = (points, tuple((one, other, 2 * min(number, 3)) for one, other, number in roads))
            self.assertTrue(self.check(doubles, ends))

    def test_even_inside_with_odd_ends_and_roads(self):
        chance, many = random.Random(74), 0
        while many < 40:
            net = some_net(chance.randint(4, 6), chance, 3)
            ends = tuple(sorted(chance.sample(range(net[0]), chance.randint(2, 4))))
            if even_inside(net, ends) and any(road[2] % 2 for road in net[1]) and len(ends) < net[0]:
                self.assertTrue(self.check(net, ends))
                many += 1

    def test_halves_are_needed_although_the_widths_at_the_ends_are_even(self):
        net = (5, ((0, 3, 1), (0, 4, 3), (1, 3, 1), (1, 4, 2), (2, 3, 1), (2, 4, 1)))
        self.check(net, (0, 2, 4))
        net = (6, ((0, 4, 1), (0, 5, 3), (1, 5, 2), (2, 5, 2), (3, 5, 2)))
        self.check(net, (0, 2, 3))
        net = (6, ((0, 2, 2), (0, 3, 1), (0, 5, 1), (1, 5, 2), (2, 3, 3), (2, 4, 3), (3, 4, 3), (3, 5, 2)))
        self.check(net, (0, 1, 2))

    def test_point_99(self):
        for net, ends in end_tasks(60, 75):
            links, fences = ends_evidence(net, ends)
            for end, fence in zip(ends, fences):
                amounts = [as_fraction(amount) for path, amount in links if end in (path[0], path[-1])]
                self.assertEqual(sum(amounts), reach(net, ends, end)[0])
                for path, _ in links:
                    crossed = sum((here in fence) != (there in fence) for here, there in zip(path, path[1:]))
                    # With two ends the one fence is that of both of them.
                    own = end in (path[0], path[-1]) or fence in [fences[ends.index(p)] for p in (path[0], path[-1])]
                    self.assertEqual(crossed, int(own))

    def test_bounds(self):
        nine = tuple((one, other, 1) for one, other in list(combinations(range(6), 2))[:9])
        self.check((6, nine), (0, 1, 2, 3, 4))
        for net in ((6, nine + ((2, 3, 1),)), (7, ()), (7, nine), FULL):
            with self.assertRaises(TooLarge) as caught:
                ends_evidence(net, (0, 1))
            self.assertEqual(caught.exception.what, "net")
            self.assertIs(accepts_ends(net, (0, 1), None), False)
            reach(net, (0, 1), 0)
            greatest_total(net, (0, 1))

    def test_wrong_arguments_come_ahead_of_the_bounds(self):
        for arguments, name in (((list(FULL), (0, 1)), "net"), ((FULL, (0,)), "ends"), ((FULL, (1, 0)), "ends"),
                                ((FULL, (0, 1, 2, 3, 4, 5)), "ends"), ((FULL, (0, 7)), "ends")):
            with self.assertRaises(BadValue) as caught:
                ends_evidence(*arguments)
            self.assertEqual(caught.exception.name, name)
        with self.assertRaises(BadValue) as caught:
            reach(FULL, (0, 1, 2, 3, 4), 5)
        self.assertEqual(caught.exception.name, "end")

    def test_equal_arguments_give_equal_answers(self):
        for net, ends in end_tasks(30, 76):
            again = (net[0], tuple(tuple(list(road)) for road in net[1])), tuple(list(ends))
            self.assertEqual(ends_evidence(net, ends), ends_evidence(*again))


class TestAccepted(unittest.TestCase):
    def accepted(self, value, wanted, net=STAR, ends=THREE):
        with self.subTest(value=value):
            self.assertIs(accepts_ends(net, ends, value), wanted)

    def test_example(self):
        self.accepted((HALVES, TOLD), True)
        self.accepted((HALVES[:2], TOLD), False)

    def test_links_in_any_sequence_and_in_pieces(self):
        for links in shuffled(HALVES):
            self.accepted((links, TOLD), True)
        self.accepted(((((0, 3, 1), (1, 4)), ((0, 3, 1), (1, 4))) + HALVES[1:], TOLD), True)
        self.accepted(((((0, 3, 1), (1, 6)), ((0, 3, 1), (1, 3))) + HALVES[1:], TOLD), True)

    def test_other_fences_of_the_same_width(self):
        net, ends = (4, ((0, 1, 1), (1, 2, 1), (2, 3, 1))), (0, 3)
        links = (((0, 1, 2, 3), (1, 1)),)
        for first in ((1, 2, 3), (2, 3), (3,)):
            for second in ((1, 2, 3), (2, 3), (3,)):
                self.accepted((links, (first, second)), True, net, ends)
        self.accepted((links, ((1, 2, 3), (1,))), False, net, ends)
        self.accepted((links, ((2,), (3,))), False, net, ends)

    def test_the_evidence_of_drawn_nets_changed(self):
        for net, ends in end_tasks(40, 77):
            links, fences = ends_evidence(net, ends)
            for fewer in shortened(links):
                self.accepted((fewer, fences), False, net, ends)
            for more in doubled(links):
                self.accepted((more, fences), False, net, ends)
            for index, (path, (upper, lower)) in enumerate(links):
                self.accepted((put(links, (index, 1), (2 * upper, 2 * lower)), fences), False, net, ends)
                self.accepted((put(links, (index, 1), (upper, lower + 1)), fences), False, net, ends)
                self.accepted((put(links, (index, 1), (upper + lower, lower)), fences), False, net, ends)
                self.accepted((put(links, (index, 0), path[::-1]), fences), False, net, ends)
            for index, end in enumerate(ends):
                for fence in masks(net[0]):
                    wanted = parts_from_others(ends, end, fence)
                    wanted = wanted and sum_across(net[1], fence) == reach(net, ends, end)[0]
                    self.accepted((links, put(fences, (index,), fence)), wanted, net, ends)

    def test_fences_turned_inside_out(self):
        for net, ends in end_tasks(40, 78):
            links, fences = ends_evidence(net, ends)
            for index, fence in enumerate(fences):
                turned = tuple(point for point in range(net[0]) if point not in fence)
                self.accepted((links, put(fences, (index,), turned)), False, net, ends)

    def test_fences_in_another_sequence_or_number(self):
        for wrong in shuffled(TOLD) + shortened(TOLD) + doubled(TOLD) + [(), TOLD[:1] * 3, TOLD + ((3,),)]:
            self.accepted((HALVES, wrong), False)

    def test_a_fence_that_parts_no_end_from_the_others(self):
        net, ends = (4, ((0, 1, 1), (1, 2, 1), (1, 3, 1))), (0, 3)
        links = (((0, 1, 3), (1, 1)),)
        for fence in masks(4):
            wanted = 3 in fence and sum_across(net[1], fence) == 1
            self.accepted((links, ((3,), fence)), wanted, net, ends)
        for fence in ((3,), (1, 2), (1, 2, 3), (2, 3), (1, 3)):
            self.accepted((HALVES, (TOLD[0], fence, TOLD[2])), False)

    def test_smaller_totals_are_not_the_greatest(self):
        self.accepted(((), TOLD), False)
        self.accepted(((((0, 3, 1), (1, 1)),), TOLD), False)
        self.accepted(((((0, 3, 1), (1, 2)), ((0, 3, 2), (1, 2)), ((1, 3, 2), (1, 3))), TOLD), False)

    def test_more_than_a_road_takes(self):
        links = (((0, 3, 1), (1, 1)), ((0, 3, 2), (1, 2)))
        self.accepted((links, TOLD), False)
        self.accepted((put(HALVES, (0, 1), (3, 2)), TOLD), False)

    def test_links_that_are_none(self):
        net, ends = (4, ((0, 1, 1), (0, 2, 1), (1, 2, 1), (1, 3, 1), (2, 3, 1))), (0, 3)
        right = (((0, 1, 3), (1, 1)), ((0, 2, 3), (1, 1)))
        fences = ((3,), (3,))
        self.accepted((right, fences), True, net, ends)
        wrong = ((0, 1, 0, 1, 3), (0, 1, 2, 1, 3), (3, 1, 0), (0, 3), (0, 1), (1, 3), (0,), (), (0, 1, 4, 3),
                 (0, 1, 1, 3),
                 (0, 2, 2, 3), (0, -3, 3), [0, 1, 3], (0, True, 3), (False, 1, 3), (0, 1, 3.0), (0, 1, 2, 3, 1), "013",
                 (0, 1, 3, 2), None)
        for path in wrong:
            self.accepted((put(right, (0, 0), path), fences), False, net, ends)
        self.accepted((put(right, (0, 0), (0, 1, 2, 3)), fences), False, net, ends)

    def test_a_link_through_an_end(self):
        row = (3, ((0, 1, 2), (1, 2, 2)))
        fences = ((1, 2), (1,), (2,))
        right = (((0, 1), (2, 1)), ((1, 2), (2, 1)))
        self.accepted((right, fences), True, row, THREE)
        self.accepted(((((0, 1, 2), (2, 1)),), fences), False, row, THREE)
        self.accepted(((((0, 1, 2), (1, 1)), ((0, 1), (1, 1)), ((1, 2), (1, 1))), fences), False, row, THREE)
        # As the total were right, only the way through the end is wrong.
        loose = (3, ((0, 1, 1), (1, 2, 1)))
        self.accepted(((((0, 1, 2), (1, 1)),), ((2,), (2,))), True, loose, (0, 2))
        self.accepted(((((0, 1, 2), (1, 1)), ((0, 1), (1, 1))), ((1, 2), (1,), (2,))), False, loose, THREE)

    def test_through_an_end_with_the_right_total(self):
        net, ends = (4, ((0, 1, 1), (0, 3, 1), (1, 2, 1))), (0, 1, 2)
        fences = ends_evidence(net, ends)[1]
        total = greatest_total(net, ends)
        self.assertEqual(total, (2, 1))
        self.accepted(((((0, 1), (1, 1)), ((1, 2), (1, 1))), fences), True, net, ends)
        self.accepted(((((0, 1, 2), (1, 1)), ((1, 2), (1, 1))), fences), False, net, ends)
        wide = (4, ((0, 1, 2), (0, 3, 1), (1, 2, 1)))
        self.assertEqual(greatest_total(wide, ends), (3, 1))
        self.accepted(((((0, 1, 2), (1, 1)), ((0, 1), (2, 1))), ends_evidence(wide, ends)[1]), False, wide, ends)

    def test_fractions_that_are_none(self):
        wrong = ((0, 1), (0, 2), (2, 4), (1, 0), (0, 0), (-1, -2), (-1, 2), (1, -2), (1,), (1, 2, 1), [1, 2], 1, 0.5,
                 "1/2",
                 (True, 2), (1, True), (1.0, 2), (1, 2.0), None, (3, 6), ((1, 2),))
        for fraction in wrong:
            self.accepted((put(HALVES, (0, 1), fraction), TOLD), False)

    def test_amounts_below_0_that_make_up_for_others(self):
        more = (((0, 3, 1), (3, 2)), ((0, 3, 1), (-1, 1)))
        self.accepted((more + HALVES[1:], TOLD), False)
        self.accepted((HALVES + (((0, 3, 1), (1, 2)), ((0, 3, 1), (-1, 2))), TOLD), False)
        self.accepted((HALVES + (((0, 3, 1), (0, 1)),), TOLD), False)

    def test_great_fractions(self):
        large = 10 ** 60
        links = (((0, 3, 1), (large - 1, 2 * large)), ((0, 3, 1), (1, 2 * large))) + HALVES[1:]
        for index in (0, 1):
            amount = Fraction(*links[index][1])
            links = put(links, (index, 1), (amount.numerator, amount.denominator))
        self.accepted((links, TOLD), True)
        self.accepted((put(links, (1, 1), (1, 3 * large)), TOLD), False)

    def test_other_forms_and_kinds(self):
        value = (HALVES, TOLD)
        wrong = [other for other in in_other_forms(value) if form_of(other) != form_of(value)]
        wrong += shortened(value) + doubled(value) + [value[::-1], *ODD_KINDS]
        for kind in ODD_KINDS:
            wrong += [(kind, TOLD), (HALVES, kind), (put(HALVES, (0,), kind), TOLD), (HALVES, put(TOLD, (0,), kind)),
                      (put(HALVES, (0, 0), kind), TOLD), (put(HALVES, (0, 1), kind), TOLD)]
        for other in wrong:
            self.accepted(other, False)
        for kind in ODD_KINDS:
            self.accepted((kind, ((1,), (1,))), False, (2, ()), (0, 1))

    def test_a_larger_net(self):
        star = (7, tuple((point, 6, 6) for point in range(6)))
        ends = (0, 1, 2, 3)
        links = (((0, 6, 1), (6, 1)), ((2, 6, 3), (6, 1)))
        fences = ((1, 2, 3, 4, 5, 6), (1,), (2,), (3,))
        self.accepted((links, fences), True, star, ends)
        self.accepted((links, ((1, 2, 3, 6), *fences[1:])), False, star, ends)
        self.accepted((links[:1], fences), False, star, ends)


if __name__ == "__main__":
    unittest.main()
