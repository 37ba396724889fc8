"""Points 2, 6, 9, 10, 13 to 16: fences, their widths, loads and rooms, odd points and parts."""

import unittest
from itertools import combinations

from samples import (ACROSS, BARE, FULL, PAIR, RING, ROW, TEN, TWO_PARTS, crosses, masks, met_tasks, steps,
                     sum_across, tasks)
from wishshapes.nets import (fence_of, fences, first_weak, load, odd_points, parts, room, tight_fences, weak_fences,
                             width, widths_at)


def wider(links, index):
    """Return the links with the number at the index greater by 1."""
    one, other, number = links[index]
    return links[:index] + ((one, other, number + 1),) + links[index + 1:]


def hangs(roads, point):
    """Return all points to which the roads lead from this one, as a sorted tuple."""
    found = [point]
    for here in found:
        for one, other, _ in roads:
            if here in (one, other) and one + other - here not in found:
                found.append(one + other - here)
    return tuple(sorted(found))


class TestListOfFences(unittest.TestCase):
    def test_of_four_points(self):
        self.assertEqual(fences(RING), [(1,), (1, 2), (1, 2, 3), (1, 3), (2,), (2, 3), (3,)])

    def test_of_two_and_three_points(self):
        self.assertEqual(fences(BARE), [(1,)])
        self.assertEqual(fences(ROW), [(1,), (1, 2), (2,)])

    def test_order_and_number(self):
        for points in range(2, 8):
            found = fences((points, ()))
            self.assertIsInstance(found, list)
            self.assertEqual(found, masks(points))
            self.assertEqual(len(found), 2 ** (points - 1) - 1)
            self.assertEqual(found, sorted(set(found)))

    def test_the_roads_do_not_matter(self):
        self.assertEqual(fences(FULL), fences((7, ())))


class TestFenceOf(unittest.TestCase):
    def test_examples(self):
        self.assertEqual(fence_of(RING, (0, 2)), (1, 3))
        self.assertEqual(fence_of(RING, (1, 3)), (1, 3))
        self.assertEqual(fence_of(BARE, (0,)), (1,))
        self.assertEqual(fence_of(BARE, (1,)), (1,))

    def test_every_set_and_all_the_others(self):
        for points in range(2, 8):
            net, reached = (points, ()), []
            for many in range(1, points):
                for some in combinations(range(points), many):
                    others = tuple(point for point in range(points) if point not in some)
                    self.assertEqual(fence_of(net, some), others if 0 in some else some)
                    self.assertEqual(fence_of(net, some), fence_of(net, others))
                    reached.append(fence_of(net, some))
            self.assertEqual(sorted(reached), sorted(masks(points) * 2))


class TestRooms(unittest.TestCase):
    def test_example(self):
        rooms = [room(RING, ACROSS, fence) for fence in masks(4)]
        self.assertEqual(rooms, [1, 0, 1, 4, 1, 0, 1])
        self.assertEqual((width(RING, (1, 3)), load(RING, ACROSS, (1, 3))), (4, 0))
        self.assertEqual((width(RING, (2, 3)), load(RING, ACROSS, (2, 3))), (2, 2))

    def test_one_road_and_one_wish(self):
        self.assertEqual((width(PAIR, (1,)), width(BARE, (1,))), (3, 0))
        self.assertEqual((load(BARE, ((0, 1, 6),), (1,)), load(BARE, (), (1,))), (6, 0))
        self.assertEqual((room(PAIR, ((0, 1, 6),), (1,)), room(PAIR, (), (1,))), (-3, 3))

    def test_sums(self):
        for net, wishes in tasks():
            for fence in masks(net[0]):
                wide, loaded = sum_across(net[1], fence), sum_across(wishes, fence)
                self.assertEqual(width(net, fence), wide)
                self.assertEqual(load(net, wishes, fence), loaded)
                self.assertEqual(room(net, wishes, fence), wide - loaded)

    def test_a_wider_road_gives_its_fences_more_room(self):
        for net, wishes in tasks(30):
            for index, road in enumerate(net[1]):
                if road[2] == 6:
                    continue
                after = (net[0], wider(net[1], index))
                for fence in masks(net[0]):
                    more = 1 if crosses(road, fence) else 0
                    self.assertEqual(room(after, wishes, fence), room(net, wishes, fence) + more)
                    self.assertEqual(width(after, fence), width(net, fence) + more)

    def test_a_greater_wish_leaves_its_fences_less_room(self):
        for net, wishes in tasks(30):
            for index, wish in enumerate(wishes):
                if wish[2] == 6:
                    continue
                after = wider(wishes, index)
                for fence in masks(net[0]):
                    more = 1 if crosses(wish, fence) else 0
                    self.assertEqual(room(net, after, fence), room(net, wishes, fence) - more)
                    self.assertEqual(load(net, after, fence), load(net, wishes, fence) + more)


class TestWeakAndTight(unittest.TestCase):
    def test_examples(self):
        self.assertEqual(tight_fences(RING, ACROSS), [(1, 2), (2, 3)])
        self.assertEqual((weak_fences(RING, ACROSS), first_weak(RING, ACROSS)), ([], None))
        self.assertEqual(weak_fences(RING, ((0, 2, 2), (1, 3, 1))), [(1, 2), (2, 3)])
        self.assertEqual(first_weak(RING, ((0, 2, 2), (1, 3, 1))), (1, 2))

    def test_two_points(self):
        for amount in range(1, 7):
            wishes = ((0, 1, amount),)
            self.assertEqual(weak_fences(PAIR, wishes), [(1,)] if amount > 3 else [])
            self.assertEqual(tight_fences(PAIR, wishes), [(1,)] if amount == 3 else [])
            self.assertEqual(first_weak(PAIR, wishes), (1,) if amount > 3 else None)

    def test_rooms_below_0_and_of_0(self):
        for net, wishes in tasks(90):
            rooms = {fence: sum_across(net[1], fence) - sum_across(wishes, fence) for fence in masks(net[0])}
            weak = [fence for fence in masks(net[0]) if rooms[fence] < 0]
            self.assertEqual(weak_fences(net, wishes), weak)
            self.assertEqual(tight_fences(net, wishes), [fence for fence in masks(net[0]) if rooms[fence] == 0])
            self.assertEqual(first_weak(net, wishes), weak[0] if weak else None)
            self.assertIsInstance(weak_fences(net, wishes), list)
            self.assertIsInstance(tight_fences(net, wishes), list)

    def test_ways_leave_no_fence_too_weak(self):
        for net, wishes, _ in met_tasks():
            self.assertEqual((weak_fences(net, wishes), first_weak(net, wishes)), ([], None))

    def test_room_is_what_ways_take_for_going_to_and_fro(self):
        for net, wishes, ways in met_tasks():
            for fence in masks(net[0]):
                spare = 0
                for wish, path, amount in ways:
                    across = [step for step in steps(path) if crosses(step, fence)]
                    spare += amount * (len(across) - (1 if crosses(wishes[wish], fence) else 0))
                self.assertEqual(room(net, wishes, fence), spare)

    def test_ways_cross_a_tight_fence_once_or_never(self):
        seen = 0
        for net, wishes, ways in met_tasks():
            for fence in tight_fences(net, wishes):
                gone = {}
                for wish, path, amount in ways:
                    across = [step for step in steps(path) if crosses(step, fence)]
                    self.assertEqual(len(across), 1 if crosses(wishes[wish], fence) else 0)
                    for step in across:
                        gone[step] = gone.get(step, 0) + amount
                self.assertEqual(gone, {road[:2]: road[2] for road in net[1] if crosses(road, fence)})
                seen += 1
        self.assertGreater(seen, 50)


class TestWidthsAt(unittest.TestCase):
    def test_examples(self):
        self.assertEqual(widths_at((3, ((0, 2, 5),))), (5, 0, 5))
        self.assertEqual(widths_at(ROW), (6, 11, 5))
        self.assertEqual(widths_at(BARE), (0, 0))

    def test_sums_of_the_roads_of_each_point(self):
        for net, _ in tasks():
            sums = tuple(sum(road[2] for road in net[1] if point in road[:2]) for point in range(net[0]))
            self.assertEqual(widths_at(net), sums)
            self.assertEqual(sum(widths_at(net)), 2 * sum(road[2] for road in net[1]))

    def test_width_of_a_fence_from_the_widths_at_its_points(self):
        for net, _ in tasks():
            at_points = widths_at(net)
            for fence in masks(net[0]):
                inside = sum(road[2] for road in net[1] if road[0] in fence and road[1] in fence)
                self.assertEqual(width(net, fence), sum(at_points[point] for point in fence) - 2 * inside)


class TestOddPoints(unittest.TestCase):
    def test_examples(self):
        self.assertEqual(odd_points(RING, ACROSS), (0, 1, 2, 3))
        self.assertEqual(odd_points(RING, ACROSS[:1]), (0, 2))
        self.assertEqual((odd_points(RING, ()), odd_points(BARE, ()), odd_points(PAIR, ())), ((), (), (0, 1)))
        self.assertEqual((odd_points(PAIR, ((0, 1, 3),)), odd_points(PAIR, ((0, 1, 2),))), ((), (0, 1)))

    def test_sums_at_each_point(self):
        for net, wishes in tasks():
            odd = []
            for point in range(net[0]):
                if sum(link[2] for link in net[1] + wishes if point in link[:2]) % 2:
                    odd.append(point)
            self.assertEqual(odd_points(net, wishes), tuple(odd))
            self.assertEqual(len(odd_points(net, wishes)) % 2, 0)

    def test_odd_rooms(self):
        for net, wishes in tasks():
            odd = odd_points(net, wishes)
            rooms = [room(net, wishes, fence) for fence in masks(net[0])]
            for fence, left in zip(masks(net[0]), rooms):
                self.assertEqual(left % 2, len([point for point in odd if point in fence]) % 2)
            self.assertEqual(odd == (), all(left % 2 == 0 for left in rooms))

    def test_roads_just_as_wide_as_whole_ways_ask_are_even(self):
        for net, wishes, _ in met_tasks():
            self.assertEqual(odd_points(net, wishes), ())


class TestParts(unittest.TestCase):
    def test_examples(self):
        self.assertEqual(parts((3, ((0, 2, 5),))), ((0, 2), (1,)))
        self.assertEqual((parts(BARE), parts(PAIR)), (((0,), (1,)), ((0, 1),)))
        self.assertEqual(parts(TWO_PARTS), ((0, 3, 4, 5), (1, 2, 6)))
        self.assertEqual((parts(RING), parts(FULL)), (((0, 1, 2, 3),), ((0, 1, 2, 3, 4, 5, 6),)))
        self.assertEqual(parts((7, ())), tuple((point,) for point in range(7)))

    def test_a_road_that_joins_two_parts_late(self):
        self.assertEqual(parts((6, ((0, 5, 1), (1, 4, 1), (2, 3, 1), (3, 4, 1)))), ((0, 5), (1, 2, 3, 4)))
        self.assertEqual(parts((7, ((0, 6, 1), (1, 5, 1), (2, 4, 1), (4, 5, 1), (5, 6, 1)))), ((0, 1, 2, 4, 5, 6), (3,)))

    def test_points_that_hang_together(self):
        for net, _ in tasks(120):
            wanted = sorted({hangs(net[1], point) for point in range(net[0])})
            self.assertEqual(parts(net), tuple(wanted))

    def test_fences_of_the_width_0(self):
        for net, wishes in tasks(120):
            found = parts(net)
            self.assertEqual(sorted(point for part in found for point in part), list(range(net[0])))
            empty = [fence for fence in masks(net[0]) if width(net, fence) == 0]
            self.assertEqual(len(empty), 2 ** (len(found) - 1) - 1)
            for fence in masks(net[0]):
                whole = all(len(set(part) & set(fence)) in (0, len(part)) for part in found)
                self.assertEqual(fence in empty, whole)

    def test_a_wish_between_two_parts_is_too_much(self):
        for net, wishes in tasks(120):
            found, weak = parts(net), weak_fences(net, wishes)
            empty = [fence for fence in masks(net[0]) if width(net, fence) == 0]
            for wish in wishes:
                apart = not any(wish[0] in part and wish[1] in part for part in found)
                over = [fence for fence in empty if crosses(wish, fence)]
                self.assertEqual(apart, over != [])
                self.assertTrue(all(fence in weak for fence in over))


class TestTwoFences(unittest.TestCase):
    def wide(self, net, some):
        return width(net, fence_of(net, some)) if 0 < len(some) < net[0] else 0

    def between(self, net, first, second):
        return sum(road[2] for road in net[1]
                   if road[0] in first and road[1] in second or road[0] in second and road[1] in first)

    def test_sums_of_two_widths(self):
        for net, _ in tasks(20):
            points = range(net[0])
            for first in masks(net[0]):
                for second in masks(net[0]):
                    both = tuple(point for point in points if point in first and point in second)
                    some = tuple(point for point in points if point in first or point in second)
                    one = tuple(point for point in points if point in first and point not in second)
                    other = tuple(point for point in points if point in second and point not in first)
                    neither = tuple(point for point in points if point not in some)
                    total = width(net, first) + width(net, second)
                    more = total - self.wide(net, both) - self.wide(net, some)
                    self.assertEqual(more, 2 * self.between(net, one, other))
                    more = total - self.wide(net, one) - self.wide(net, other)
                    self.assertEqual(more, 2 * self.between(net, both, neither))


class TestSameAnswers(unittest.TestCase):
    def test_a_changed_list_changes_no_later_answer(self):
        wishes = ((0, 2, 2), (1, 3, 1))
        for ask in (lambda: fences(RING), lambda: weak_fences(RING, wishes), lambda: tight_fences(RING, ACROSS)):
            first = ask()
            kept = list(first)
            first.reverse()
            first.append((0,))
            second = ask()
            self.assertEqual(second, kept)
            self.assertIsNot(second, first)
            second.clear()
            self.assertEqual(ask(), kept)
        self.assertEqual((first_weak(RING, wishes), len(fences(RING))), ((1, 2), 7))

    def test_the_same_call_gives_the_same(self):
        for net, wishes in tasks(20):
            for ask in (fences, widths_at, parts):
                self.assertEqual(ask(net), ask((net[0], tuple(list(net[1])))))
            for ask in (weak_fences, tight_fences, first_weak, odd_points):
                self.assertEqual(ask(net, wishes), ask((net[0], tuple(list(net[1]))), tuple(list(wishes))))

    def test_kinds_of_answers(self):
        for net, wishes in ((RING, ACROSS), (FULL, TEN)):
            for ask in (fences, widths_at, parts):
                self.assertIs(type(ask(net)), list if ask == fences else tuple)
            for ask in (weak_fences, tight_fences, odd_points):
                self.assertIs(type(ask(net, wishes)), tuple if ask == odd_points else list)
            for fence in fences(net) + [fence_of(net, (0,))]:
                self.assertIs(type(fence), tuple)
            self.assertTrue(all(type(part) is tuple for part in parts(net)))


if __name__ == "__main__":
    unittest.main()
