"""Points 3, 5, 6 and 20: what is a net, what are wishes of it, and what is a fence of it."""

import unittest
from itertools import combinations, product

from changes import doubled, in_other_forms, places, put, shortened, shuffled
from samples import ACROSS, BARE, FULL, ODD_KINDS, PAIR, RING, ROW, TEN, TWO_PARTS, masks, tasks
from wishshapes.nets import are_wishes, is_fence, is_net

PAIRS = list(combinations(range(7), 2))
FULL_SIX = tuple((one, other, 6) for one, other in combinations(range(6), 2))


class FormsCase(unittest.TestCase):
    def all_are(self, wanted, judge, values):
        for index, value in enumerate(values):
            with self.subTest(index=index):
                self.assertIs(judge(value), wanted)


class TestNets(FormsCase):
    def test_nets(self):
        self.all_are(True, is_net, [RING, BARE, PAIR, ROW, TWO_PARTS, FULL, (7, ()), (2, ((0, 1, 6),))])
        self.all_are(True, is_net, [net for net, _ in tasks()])

    def test_numbers_of_points(self):
        self.all_are(True, is_net, [(points, ()) for points in range(2, 8)])
        self.all_are(False, is_net, [(points, ()) for points in (-7, -2, -1, 0, 1, 8, 9, 10 ** 30)])
        self.all_are(False, is_net, [(1, ((0, 1, 1),)), (8, ((0, 7, 1),)), (8, FULL[1])])

    def test_numbers_of_roads(self):
        roads = [(one, other, 1) for one, other in PAIRS]
        self.all_are(True, is_net, [(7, tuple(roads[:15])), (7, tuple(roads[-15:])), (6, FULL_SIX)])
        self.all_are(False, is_net, [(7, tuple(roads[:16])), (7, tuple(roads[-16:])), (7, tuple(roads))])

    def test_widths(self):
        self.all_are(True, is_net, [(2, ((0, 1, width),)) for width in range(1, 7)])
        self.all_are(False, is_net, [(2, ((0, 1, width),)) for width in (-6, -1, 0, 7, 8, 10 ** 30)])

    def test_every_road_by_itself(self):
        for one, other, width in product(range(-1, 9), range(-1, 9), (0, 1, 6, 7)):
            for points in (2, 3, 7):
                wanted = 0 <= one < other < points and 1 <= width <= 6
                self.assertIs(is_net((points, ((one, other, width),))), wanted)

    def test_every_two_roads(self):
        roads = list(product(range(3), range(4), range(1, 4)))
        for first, second in product(roads, roads):
            wanted = first[0] < first[1] < 3 and second[0] < second[1] < 3 and first[:2] < second[:2]
            self.assertIs(is_net((3, (first, second))), wanted)

    def test_no_two_roads_have_the_same_points(self):
        self.all_are(False, is_net, [(3, ((0, 1, 1), (0, 1, 2))), (3, ((0, 1, 2), (0, 2, 1), (0, 2, 6)))])

    def test_items_in_another_form(self):
        for net in (RING, PAIR, BARE, ROW, FULL):
            self.all_are(False, is_net, in_other_forms(net))

    def test_items_too_many_too_few_or_elsewhere(self):
        for net in (RING, FULL, TWO_PARTS):
            roads = net[1]
            self.all_are(True, is_net, [(net[0], fewer) for fewer in shortened(roads)])
            self.all_are(False, is_net, [(net[0], more) for more in doubled(roads) + shuffled(roads)])
            self.all_are(False, is_net, shortened(net) + doubled(net) + shuffled(net))
            for index, road in enumerate(roads):
                wrong = shortened(road) + doubled(road) + [(road[1], road[0], road[2])]
                self.all_are(False, is_net, [(net[0], put(roads, (index,), other)) for other in wrong])

    def test_other_kinds(self):
        self.all_are(False, is_net, ODD_KINDS)
        self.all_are(False, is_net, [(2, value) for value in ODD_KINDS])
        self.all_are(False, is_net, [(value, ()) for value in ODD_KINDS])
        for place in places(RING):
            self.all_are(False, is_net, [put(RING, place, value) for value in ODD_KINDS])


class TestWishes(FormsCase):
    def wishes_are(self, wanted, net, values):
        self.all_are(wanted, lambda value: are_wishes(net, value), values)

    def test_wishes(self):
        self.wishes_are(True, RING, [(), ACROSS, ((0, 1, 6),), ((0, 1, 1), (0, 3, 6), (2, 3, 4))])
        self.wishes_are(True, BARE, [(), ((0, 1, 1),), ((0, 1, 6),)])
        for net, wishes in tasks():
            self.assertIs(are_wishes(net, wishes), True)

    def test_number_of_wishes(self):
        wishes = tuple((one, other, 1) for one, other in PAIRS)
        self.wishes_are(True, (7, ()), [wishes[:10], wishes[-10:], TEN])
        self.wishes_are(False, (7, ()), [wishes[:11], wishes[-11:], wishes])

    def test_amounts(self):
        self.wishes_are(True, BARE, [((0, 1, amount),) for amount in range(1, 7)])
        self.wishes_are(False, BARE, [((0, 1, amount),) for amount in (-1, 0, 7, 8, 10 ** 30)])

    def test_points_are_those_of_the_net(self):
        for one, other in product(range(-1, 9), range(-1, 9)):
            for points in range(2, 8):
                wanted = 0 <= one < other < points
                self.assertIs(are_wishes((points, ()), ((one, other, 1),)), wanted)

    def test_every_two_wishes(self):
        wishes = list(product(range(3), range(4), range(1, 3)))
        for first, second in product(wishes, wishes):
            wanted = first[0] < first[1] < 3 and second[0] < second[1] < 3 and first[:2] < second[:2]
            self.assertIs(are_wishes((3, ()), (first, second)), wanted)

    def test_items_in_another_form(self):
        for net, wishes in ((RING, ACROSS), (BARE, ()), (BARE, ((0, 1, 1),)), (FULL, TEN)):
            self.wishes_are(False, net, in_other_forms(wishes))

    def test_items_too_many_too_few_or_elsewhere(self):
        for net, wishes in ((RING, ACROSS), (FULL, TEN)):
            self.wishes_are(True, net, shortened(wishes))
            self.wishes_are(False, net, doubled(wishes) + shuffled(wishes))
            for index, wish in enumerate(wishes):
                wrong = shortened(wish) + doubled(wish) + [(wish[1], wish[0], wish[2])]
                self.wishes_are(False, net, [put(wishes, (index,), other) for other in wrong])

    def test_other_kinds(self):
        self.wishes_are(False, RING, ODD_KINDS)
        for place in places(ACROSS):
            self.wishes_are(False, RING, [put(ACROSS, place, value) for value in ODD_KINDS])


class TestFences(FormsCase):
    def fences_are(self, wanted, points, values):
        self.all_are(wanted, lambda value: is_fence((points, ()), value), values)

    def test_fences(self):
        for points in range(2, 8):
            self.fences_are(True, points, masks(points))

    def test_every_tuple_of_numbers(self):
        for points in (2, 3, 4):
            right = masks(points)
            for many in range(5):
                for value in product(range(-1, points + 1), repeat=many):
                    self.assertIs(is_fence((points, ()), value), value in right)

    def test_without_points_or_with_the_point_0(self):
        for points in range(2, 8):
            self.fences_are(False, points, [(), (0,), (0, 1), tuple(range(points)), (points,), (-1,)])

    def test_a_longer_fence_of_a_larger_net(self):
        for points in range(2, 7):
            inside = masks(points)
            self.fences_are(False, points, [fence for fence in masks(7) if fence not in inside])

    def test_items_in_another_form(self):
        for points, fence in ((2, (1,)), (4, (1, 3)), (7, (1, 2, 3, 4, 5, 6))):
            self.fences_are(False, points, in_other_forms(fence))

    def test_items_too_many_too_few_or_elsewhere(self):
        for fence in ((1, 3, 5), (1, 2, 3, 4)):
            self.fences_are(True, 7, shortened(fence))
            self.fences_are(False, 7, doubled(fence) + shuffled(fence))

    def test_other_kinds(self):
        self.fences_are(False, 4, ODD_KINDS)
        for place in places((1, 3)):
            self.fences_are(False, 4, [put((1, 3), place, value) for value in ODD_KINDS])


if __name__ == "__main__":
    unittest.main()
