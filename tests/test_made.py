"""Points 17 to 20: renamed nets, and two points put together."""

import random
import unittest
from itertools import combinations, permutations

from samples import ACROSS, BARE, FULL, RING, TEN, masks, met_tasks, tasks
from wishshapes.errors import NotPossible, TooLarge
from wishshapes.made import put_together, renamed
from wishshapes.nets import (are_wishes, fence_of, first_weak, is_net, load, odd_points, parts, room, weak_fences,
                             width)


def by_name(links, order):
    """Return the renamed links, each found by itself and then sorted."""
    return tuple(sorted((*sorted((order[one], order[other])), number) for one, other, number in links))


def merged(links, one, other):
    """Return the links with the other point put to the one, summed up pair by pair."""
    def number_of(point):
        if point == other:
            return one
        return point - 1 if point > other else point

    sums = {}
    for first, second, number in links:
        pair = tuple(sorted((number_of(first), number_of(second))))
        if len(set(pair)) == 2:
            sums[pair] = sums.get(pair, 0) + number
    return tuple((*pair, sums[pair]) for pair in sorted(sums))


def outcome(net, wishes, one, other):
    """Return what putting together must give: the pair, or the error with its word."""
    roads, left = merged(net[1], one, other), merged(wishes, one, other)
    if net[0] == 2:
        return (NotPossible, "two")
    if any(road[2] > 6 for road in roads):
        return (TooLarge, "width")
    if any(wish[2] > 6 for wish in left):
        return (TooLarge, "amount")
    return ((net[0] - 1, roads), left)


def told(net, wishes, one, other):
    """Return what putting together gives, an error as its class and word."""
    try:
        return put_together(net, wishes, one, other)
    except NotPossible as error:
        return (NotPossible, error.why)
    except TooLarge as error:
        return (TooLarge, error.what)


class TestRenamed(unittest.TestCase):
    def test_example(self):
        net = (4, ((0, 1, 1), (0, 2, 1), (1, 3, 1), (2, 3, 1)))
        self.assertEqual(renamed(RING, ACROSS, (1, 0, 2, 3)), (net, ((0, 3, 1), (1, 2, 1))))

    def test_an_order_that_is_not_its_own_reverse(self):
        net = (3, ((0, 1, 2), (1, 2, 5)))
        self.assertEqual(renamed(net, ((0, 2, 4),), (1, 2, 0)), ((3, ((0, 2, 5), (1, 2, 2))), ((0, 1, 4),)))

    def test_two_points(self):
        self.assertEqual(renamed((2, ((0, 1, 3),)), ((0, 1, 6),), (1, 0)), ((2, ((0, 1, 3),)), ((0, 1, 6),)))
        self.assertEqual(renamed(BARE, (), (1, 0)), (BARE, ()))

    def test_every_order(self):
        for net, wishes in tasks(30):
            for order in list(permutations(range(net[0])))[::7]:
                new_net, new_wishes = renamed(net, wishes, order)
                self.assertEqual(new_net, (net[0], by_name(net[1], order)))
                self.assertEqual(new_wishes, by_name(wishes, order))
                self.assertTrue(is_net(new_net) and are_wishes(new_net, new_wishes))

    def test_there_and_back(self):
        for net, wishes in tasks(30):
            order = tuple(random.Random(net[0]).sample(range(net[0]), net[0]))
            back = tuple(order.index(point) for point in range(net[0]))
            there = renamed(net, wishes, order)
            self.assertEqual(renamed(*there, back), (net, wishes))
            self.assertEqual(renamed(net, wishes, tuple(range(net[0]))), (net, wishes))

    def test_fences_keep_what_they_have(self):
        for net, wishes in tasks(40):
            order = tuple(random.Random(net[0]).sample(range(net[0]), net[0]))
            new_net, new_wishes = renamed(net, wishes, order)
            for fence in masks(net[0]):
                new = fence_of(new_net, tuple(sorted(order[point] for point in fence)))
                self.assertEqual(width(new_net, new), width(net, fence))
                self.assertEqual(load(new_net, new_wishes, new), load(net, wishes, fence))
                self.assertEqual(room(new_net, new_wishes, new), room(net, wishes, fence))
            self.assertEqual(len(parts(new_net)), len(parts(net)))
            odd = sorted(order[point] for point in odd_points(net, wishes))
            self.assertEqual(odd_points(new_net, new_wishes), tuple(odd))


class TestPutTogether(unittest.TestCase):
    def test_examples(self):
        self.assertEqual(put_together(RING, ACROSS, 1, 3), ((3, ((0, 1, 2), (1, 2, 2))), ((0, 2, 1),)))
        self.assertEqual(put_together(RING, ACROSS, 0, 1), (
            (3, ((0, 1, 1), (0, 2, 1), (1, 2, 1))), ((0, 1, 1), (0, 2, 1))))

    def test_greater_points_get_a_number_that_is_less_by_1(self):
        net = (5, ((0, 4, 1), (1, 3, 2), (2, 3, 3), (3, 4, 4)))
        self.assertEqual(put_together(net, ((1, 4, 5), (2, 3, 6)), 0, 2), (
            (4, ((0, 2, 3), (0, 3, 1), (1, 2, 2), (2, 3, 4))), ((0, 2, 6), (1, 3, 5))))
        self.assertEqual(told(net, (), 2, 4), (TooLarge, "width"))

    def test_the_other_point_may_be_the_last_one(self):
        net = (4, ((0, 3, 2), (1, 3, 1), (2, 3, 6)))
        self.assertEqual(put_together(net, ((0, 3, 4), (1, 3, 1)), 2, 3), ((3, ((0, 2, 2), (1, 2, 1))),
                                                                          ((0, 2, 4), (1, 2, 1))))
        self.assertEqual(put_together(net, ((0, 3, 4), (1, 3, 1)), 1, 3), ((3, ((0, 1, 2), (1, 2, 6))), ((0, 1, 4),)))

    def test_a_point_of_a_road_may_become_the_lesser_one(self):
        self.assertEqual(put_together((3, ((1, 2, 3),)), ((1, 2, 5),), 0, 2), ((2, ((0, 1, 3),)), ((0, 1, 5),)))

    def test_what_is_between_the_two_is_taken_out(self):
        self.assertEqual(put_together((3, ((0, 1, 6),)), ((0, 1, 6),), 0, 1), (BARE, ()))
        self.assertEqual(put_together((3, ()), (), 1, 2), (BARE, ()))

    def test_widths_up_to_6_and_beyond(self):
        for first in range(1, 7):
            for second in range(1, 7):
                net = (3, ((0, 2, first), (1, 2, second)))
                wanted = ((2, ((0, 1, first + second),)), ()) if first + second <= 6 else (TooLarge, "width")
                self.assertEqual(told(net, (), 0, 1), wanted)

    def test_amounts_up_to_6_and_beyond(self):
        for first in range(1, 7):
            for second in range(1, 7):
                wishes = ((0, 2, first), (1, 2, second))
                wanted = (BARE, ((0, 1, first + second),)) if first + second <= 6 else (TooLarge, "amount")
                self.assertEqual(told((3, ()), wishes, 0, 1), wanted)

    def test_width_is_told_ahead_of_amount(self):
        links = ((0, 2, 4), (1, 2, 3))
        self.assertEqual(told((3, links), links, 0, 1), (TooLarge, "width"))
        self.assertEqual(told((3, links), (), 0, 1), (TooLarge, "width"))
        self.assertEqual(told((3, ()), links, 0, 1), (TooLarge, "amount"))
        self.assertEqual(told((3, ((0, 2, 3), (1, 2, 3))), links, 0, 1), (TooLarge, "amount"))

    def test_a_net_of_two_points(self):
        for net in (BARE, (2, ((0, 1, 6),))):
            for wishes in ((), ((0, 1, 6),)):
                self.assertEqual(told(net, wishes, 0, 1), (NotPossible, "two"))

    def test_every_two_points(self):
        kinds = []
        for net, wishes in tasks(90):
            for one, other in combinations(range(net[0]), 2):
                wanted = outcome(net, wishes, one, other)
                self.assertEqual(told(net, wishes, one, other), wanted)
                kinds.append(wanted[0] if wanted[0] in (NotPossible, TooLarge) else None)
        self.assertTrue(all(kinds.count(kind) > 10 for kind in (NotPossible, TooLarge, None)))

    def test_fences_keep_what_they_have(self):
        for net, wishes in tasks(90):
            for one, other in combinations(range(net[0]), 2):
                made = told(net, wishes, one, other)
                if made[0] in (NotPossible, TooLarge):
                    continue
                new_net, new_wishes = made
                self.assertTrue(is_net(new_net) and are_wishes(new_net, new_wishes))
                self.fences_are_kept(net, wishes, new_net, new_wishes, one, other)

    def fences_are_kept(self, net, wishes, new_net, new_wishes, one, other):
        kept = []
        for fence in masks(net[0]):
            if (one in fence) != (other in fence):
                continue
            new = tuple(sorted(point - 1 if point > other else point for point in fence if point != other))
            self.assertEqual(width(new_net, new), width(net, fence))
            self.assertEqual(load(new_net, new_wishes, new), load(net, wishes, fence))
            self.assertEqual(room(new_net, new_wishes, new), room(net, wishes, fence))
            kept.append(new)
        self.assertEqual(sorted(kept), masks(new_net[0]))

    def test_no_fence_gets_too_weak(self):
        seen = 0
        for net, wishes in tasks(120) + [task[:2] for task in met_tasks()]:
            if first_weak(net, wishes) is not None:
                continue
            for one, other in combinations(range(net[0]), 2):
                made = told(net, wishes, one, other)
                if made[0] not in (NotPossible, TooLarge):
                    self.assertEqual(weak_fences(*made), [])
                    seen += 1
        self.assertGreater(seen, 100)


class TestSameAnswers(unittest.TestCase):
    def test_kinds_of_answers(self):
        for made in (renamed(FULL, TEN, (6, 5, 4, 3, 2, 1, 0)), put_together(RING, ACROSS, 0, 2)):
            net, wishes = made
            self.assertIs(type(made), tuple)
            self.assertTrue(is_net(net) and are_wishes(net, wishes))

    def test_the_same_call_gives_the_same(self):
        for _ in range(2):
            self.assertEqual(put_together(RING, ACROSS, 1, 3), ((3, ((0, 1, 2), (1, 2, 2))), ((0, 2, 1),)))
            self.assertEqual(renamed(RING, (), (3, 2, 1, 0)), (RING, ()))


if __name__ == "__main__":
    unittest.main()
