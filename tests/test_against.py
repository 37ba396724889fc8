"""Points 46 and 70 to 81: nets against shapes, the told ones, and those renamed and multiplied."""

import random
import unittest
from itertools import combinations, permutations

from changes import doubled, form_of, in_other_forms, places, put, shortened, shuffled
from judges import distances, is_right_rise, needed, rises_from, some_rise, worth_by
from samples import ODD_KINDS, crosses, masks
from shaped import BOTH, PAIRS, RING, STARS, evidence_of, some_shapes
from small import APART, FIVE, SIX, TRIANGLE, doubled_links, room_of, weak_of
from wishshapes.against import accepts_against, multiplied, net_against, renamed_against
from wishshapes.errors import NotPossible, TooLarge
from wishshapes.lengths import can_be_met, told_evidence
from wishshapes.nets import are_wishes, is_net
from wishshapes.shapes import renamed_shape

LAST = ((0, 5), (1, 3), (4, 6))


def not_enough(many=120, seed=50):
    """Return shapes of up to ten pairs that are not enough."""
    found = [shape for shape in some_shapes(many * 2, seed) if evidence_of(shape)[0][0] == "not"]
    return [BOTH, ((0, 1), (2, 3), (4, 5)), LAST, BOTH + ((4, 5),), BOTH + ((5, 6),), *found[:many]]


def least_shapes():
    """Return all least shapes of seven points."""
    three = [three for three in combinations(PAIRS, 3) if len({point for pair in three for point in pair}) == 6]
    found = []
    for corners in combinations(range(7), 3):
        for pair in combinations([point for point in range(7) if point not in corners], 2):
            found.append(tuple(sorted([*combinations(corners, 2), pair])))
    return three + found


def told_by_words(shape):
    """Return the told net against the shape, built as points 72 and 73 say."""
    told = evidence_of(shape)[0]
    pairs, widths, lengths, amounts = told[2], {}, {}, {}

    def join(one, other, length):
        pair = (min(one, other), max(one, other))
        widths[pair] = widths.get(pair, 0) + 1
        lengths.setdefault(pair, length)

    if told[1] == "apart":
        (a, b), (c, d), (e, f) = pairs
        for one, other in ((a, c), (a, d), (a, e), (b, c), (b, d), (b, e), (f, c), (f, d)):
            join(one, other, 1)
        amounts = {pairs[0]: 1, pairs[1]: 1, pairs[2]: 2}
    else:
        for end in pairs[3]:
            for corner in {point for pair in pairs[:3] for point in pair}:
                join(end, corner, 1)
        amounts = {pair: 1 for pair in pairs}
    points = 1 + max(point for pair in shape for point in pair)
    for pair in shape:
        if pair not in pairs:
            roads = sorted(widths)
            net = (points, tuple((*road, 1) for road in roads))
            least = distances(net, [lengths[road] for road in roads])[pair]
            join(*pair, 1 if least is None else least)
            amounts[pair] = 1
    net = (points, tuple((*road, widths[road]) for road in sorted(widths)))
    wishes = tuple((*pair, amounts[pair]) for pair in shape)
    ordered = tuple(lengths[road] for road in sorted(lengths))
    return net, wishes, ordered, rises_from(net, wishes, ordered)


def is_right_against(shape, value):
    """Tell whether the value, whose form is right, is a net against the shape."""
    net, wishes, lengths, rises = value
    if not is_net(net) or not are_wishes(net, wishes) or tuple(wish[:2] for wish in wishes) != shape:
        return False
    if len(lengths) != len(net[1]) or min(lengths) < 0 or len(rises) != len(wishes):
        return False
    if not all(len(rise) == net[0] and is_right_rise(net, lengths, rise) for rise in rises):
        return False
    return not weak_of(net, wishes) and needed(wishes, rises) > worth_by(net, lengths)


class TestTold(unittest.TestCase):
    def test_point_81(self):
        told = net_against(BOTH)
        self.assertEqual(told[:3], (FIVE, TRIANGLE, (1,) * 6))
        self.assertEqual((needed(told[1], told[3]), worth_by(told[0], told[2])), (8, 6))
        told = net_against(((0, 1), (2, 3), (4, 5)))
        self.assertEqual(told[:3], (SIX, APART, (1,) * 8))
        self.assertEqual((needed(told[1], told[3]), worth_by(told[0], told[2])), (10, 8))

    def test_examples(self):
        self.assertEqual(net_against(BOTH)[3], ((0, 2, 2, 1, 1), (0, 2, 2, 1, 1), (2, 0, 2, 1, 1), (1, 1, 1, 0, 2)))
        self.assertEqual(net_against(BOTH + ((4, 5),))[2], (1, 1, 1, 1, 1, 1, 1))
        self.assertEqual(net_against(BOTH + ((5, 6),))[2], (1, 1, 1, 1, 3, 1, 1, 1, 1, 1))

    def test_least_shapes(self):
        for shape in least_shapes():
            told = net_against(shape)
            self.assertEqual(told, told_by_words(shape))
            self.assertIs(accepts_against(shape, told), True)
            self.assertTrue(is_right_against(shape, told))
            self.assertEqual(set(told[2]), {1})
            self.assertEqual(needed(told[1], told[3]), worth_by(told[0], told[2]) + 2)

    def test_the_greater_wish_is_that_of_the_last_pair(self):
        net, wishes, lengths, _ = net_against(LAST)
        self.assertEqual(wishes, ((0, 5, 1), (1, 3, 1), (4, 6, 2)))
        roads = ((0, 1), (0, 3), (0, 4), (1, 5), (1, 6), (3, 5), (3, 6), (4, 5))
        self.assertEqual(net, (7, tuple((*pair, 1) for pair in roads)))
        self.assertEqual(lengths, (1,) * 8)

    def test_all_shapes_that_are_not_enough(self):
        sizes, seven = set(), 0
        for shape in not_enough():
            told = net_against(shape)
            self.assertEqual(told, told_by_words(shape))
            self.assertEqual([type(part) for part in (told, *told, told[0][1], *told[3])], [tuple] * (6 + len(shape)))
            self.assertIs(accepts_against(shape, told), True)
            self.assertTrue(is_right_against(shape, told))
            net, wishes, lengths, rises = told
            self.assertEqual(needed(wishes, rises), worth_by(net, lengths) + 2)
            self.assertEqual(tuple(wish[:2] for wish in wishes), shape)
            self.assertLessEqual(max(road[2] for road in net[1]), 2)
            self.assertLessEqual(len(net[1]), 15)
            self.assertEqual(net[0], 1 + max(point for pair in shape for point in pair))
            sizes.add(len(shape))
            seven += net[0] == 7
        self.assertTrue(set(range(4, 11)) <= sizes)
        self.assertGreater(seven, 10)

    def test_fifteen_roads(self):
        shape = tuple(sorted(((0, 1), (2, 3), (4, 5), (0, 6), (1, 6), (2, 6), (3, 6), (4, 6), (5, 6), (0, 5))))
        found = net_against(shape)
        self.assertEqual(len(found[0][1]), 15)
        self.assertIs(accepts_against(shape, found), True)

    def test_further_pairs_leave_the_rooms(self):
        for shape in not_enough(40, 51):
            core = tuple(sorted(evidence_of(shape)[0][2]))
            net, wishes = net_against(shape)[:2]
            least, asked = net_against(core)[:2]
            for fence in masks(net[0]):
                self.assertEqual(room_of(net, wishes, fence), room_of((net[0], least[1]), asked, fence))

    def test_wishes_are_not_met(self):
        for shape in least_shapes() + not_enough(60, 52):
            net, wishes = net_against(shape)[:2]
            if net[0] < 7 and len(net[1]) < 10 and len(wishes) < 6:
                self.assertEqual(told_evidence(net, wishes)[0], "lengths")

    def test_without_one_wish_the_others_are_met(self):
        checked = 0
        for shape in least_shapes():
            net, wishes = net_against(shape)[:2]
            if net[0] < 7:
                for less in shortened(wishes):
                    self.assertIs(can_be_met(net, less), True)
                    checked += 1
        self.assertGreater(checked, 100)

    def test_each_road_crosses_a_tight_fence(self):
        for shape in least_shapes():
            net, wishes = net_against(shape)[:2]
            tight = [fence for fence in masks(net[0]) if room_of(net, wishes, fence) == 0]
            for index, road in enumerate(net[1]):
                self.assertTrue(any(crosses(road, fence) for fence in tight))
                self.assertTrue(weak_of((net[0], net[1][:index] + net[1][index + 1:]), wishes))

    def test_a_shape_that_is_enough_has_none(self):
        told = net_against(BOTH)
        for shape in ((), RING, RING[1:], STARS, BOTH[:3], BOTH[1:], ((0, 1), (2, 3))):
            with self.assertRaises(NotPossible) as caught:
                net_against(shape)
            self.assertEqual(caught.exception.why, "enough")
            for value in (told, net_against(LAST), (told[0], told[1][1:], told[2], told[3][1:])):
                self.assertIs(accepts_against(shape, value), False)


class TestAccepted(unittest.TestCase):
    def accepted(self, value, wanted, shape=BOTH):
        with self.subTest(value=value):
            self.assertIs(accepts_against(shape, value), wanted)

    def test_other_shapes(self):
        told = net_against(BOTH)
        for shape in (BOTH[1:], BOTH + ((4, 5),), ((0, 1), (0, 2), (1, 2), (3, 5)), LAST, ()):
            self.accepted(told, False, shape)

    def test_one_number_changed(self):
        for shape in (BOTH, ((0, 1), (2, 3), (4, 5)), LAST, BOTH + ((4, 5),), BOTH + ((5, 6),)):
            told = net_against(shape)
            yes = 0
            for place in places(told):
                old = told
                for index in place:
                    old = old[index]
                if type(old) is int:
                    for step in (-2, -1, 1, 2):
                        value = put(told, place, old + step)
                        wanted = is_net(value[0]) and is_right_against(shape, value)
                        self.accepted(value, wanted, shape)
                        yes += wanted
            self.assertGreater(yes, 0)

    def test_a_weak_fence(self):
        told = net_against(BOTH)
        for index in range(6):
            roads = told[0][1][:index] + told[0][1][index + 1:]
            lengths = told[2][1:]
            self.accepted(((5, roads), told[1], lengths, told[3]), False)
        greater = put(told, (1, 3, 2), 2)
        self.assertTrue(weak_of(*greater[:2]))
        self.accepted(greater, False)

    def test_need_that_is_the_worth(self):
        told = net_against(BOTH)
        once = (*told[:3], told[3][:3] + ((0, 0, 0, 0, 1),))
        self.assertEqual(needed(once[1], once[3]) - worth_by(once[0], once[2]), 1)
        self.accepted(once, True)
        none = (*told[:3], told[3][:3] + ((0, 0, 0, 0, 0),))
        self.assertEqual(needed(none[1], none[3]), worth_by(none[0], none[2]))
        self.accepted(none, False)

    def test_other_rises(self):
        chance = random.Random(53)
        right = 0
        for shape in not_enough(30, 54):
            net, wishes, lengths, rises = net_against(shape)
            for _ in range(6):
                others = list(rises)
                for place in chance.sample(range(len(rises)), chance.randint(1, 2)):
                    others[place] = some_rise(net, lengths, chance)
                value = (net, wishes, lengths, tuple(others))
                self.accepted(value, is_right_against(shape, value), shape)
                gains = [[needed([wish], [rise]) for rise, wish in zip(some, wishes)] for some in (rises, others)]
                if all(old <= new for old, new in zip(*gains)):
                    self.accepted(value, True, shape)
                    right += 1
            higher = tuple(tuple(number - 9 for number in rise) for rise in rises)
            self.accepted((net, wishes, lengths, higher), True, shape)
        self.assertGreater(right, 3)

    def test_a_further_point_and_more_room(self):
        told = net_against(BOTH)
        wide = ((6, told[0][1]), *told[1:3], tuple(rise + (8,) for rise in told[3]))
        self.accepted(wide, True)
        more = ((6, told[0][1] + ((4, 5, 3),)), told[1], told[2] + (0,), tuple(rise + (rise[4],) for rise in told[3]))
        self.accepted(more, True)
        self.accepted(put(more, (2, 6), 1), False)
        self.accepted(((7, told[0][1]), *told[1:3], tuple(rise + (0, 0) for rise in told[3])), True)

    def test_other_forms_and_kinds(self):
        for shape in (BOTH, ((0, 1), (2, 3), (4, 5))):
            told = net_against(shape)
            wrong = [value for value in in_other_forms(told) if form_of(value) != form_of(told)]
            wrong += shortened(told) + doubled(told) + shuffled(told) + [*ODD_KINDS]
            for place in places(told):
                wrong += [put(told, place, kind) for kind in ODD_KINDS if len(place) < 3 and type(kind) is not int]
            for value in wrong:
                self.accepted(value, False, shape)

    def test_deep_numbers(self):
        told = net_against(BOTH)
        for kind in ODD_KINDS:
            for place in ((0, 0), (0, 1, 0, 2), (1, 0, 2), (2, 0), (3, 0, 1), (3, 3, 4), (0, 1, 5), (3, 2)):
                self.accepted(put(told, place, kind), False)


class TestRenamed(unittest.TestCase):
    def by_words(self, value, order):
        """Return the renamed net against a shape, as point 76 says."""
        net, wishes, lengths, rises = value
        roads, asked = [], []
        for (one, other, width), length in zip(net[1], lengths):
            roads.append((*sorted((order[one], order[other])), width, length))
        for (one, other, amount), rise in zip(wishes, rises):
            numbers = {order[point]: rise[point] for point in range(net[0])}
            new = [numbers[point] for point in range(net[0])]
            if order[one] > order[other]:
                new = [max(rise) - number for number in new]
            asked.append((*sorted((order[one], order[other])), amount, tuple(new)))
        roads, asked = sorted(roads), sorted(asked)
        return ((net[0], tuple(road[:3] for road in roads)), tuple(wish[:3] for wish in asked),
                tuple(road[3] for road in roads), tuple(wish[3] for wish in asked))

    def test_example(self):
        found = renamed_against(BOTH, net_against(BOTH), (4, 3, 2, 1, 0))
        wanted = ((0, 2, 1, 1, 1), (1, 1, 0, 2, 0), (1, 1, 0, 0, 2), (1, 1, 0, 0, 2))
        self.assertEqual(found[1], ((0, 1, 1), (2, 3, 1), (2, 4, 1), (3, 4, 1)))
        self.assertEqual(found[2:], ((1,) * 6, wanted))

    def test_every_order_of_five_points(self):
        told = net_against(BOTH)
        for order in permutations(range(5)):
            self.check(BOTH, told, order)
        self.assertEqual(renamed_against(BOTH, told, (0, 1, 2, 3, 4)), told)

    def check(self, shape, value, order):
        found = renamed_against(shape, value, order)
        self.assertEqual(found, self.by_words(value, order))
        wanted = renamed_shape(shape, (*order, *range(len(order), 7)))
        self.assertIs(accepts_against(wanted, found), True)
        self.assertEqual(needed(found[1], found[3]), needed(value[1], value[3]))
        self.assertEqual(worth_by(found[0], found[2]), worth_by(value[0], value[2]))

    def test_other_shapes(self):
        chance = random.Random(55)
        for shape in not_enough(40, 56):
            net, wishes, lengths, rises = net_against(shape)
            moved = tuple(tuple(number + index - 3 for number in rise) for index, rise in enumerate(rises))
            for value in ((net, wishes, lengths, rises), (net, wishes, lengths, moved)):
                order = tuple(chance.sample(range(net[0]), net[0]))
                self.check(shape, value, order)

    def test_only_the_turned_wishes_change(self):
        told = net_against(BOTH)
        found = renamed_against(BOTH, told, (1, 0, 2, 3, 4))
        self.assertEqual(found[3][0], (2 - 2, 2 - 0, 0, 1, 1))
        self.assertEqual(found[3][3], (1, 1, 1, 0, 2))


class TestMultiplied(unittest.TestCase):
    def test_numbers(self):
        for shape in not_enough(30, 57):
            told = net_against(shape)
            for factor in range(1, 4):
                wide = max(road[2] for road in told[0][1]) * factor
                large = max(wish[2] for wish in told[1]) * factor
                self.assertTrue(wide <= 6 and large <= 6)
                found = multiplied(shape, told, factor)
                net, wishes, lengths, rises = told
                self.assertEqual(found[0], (net[0], tuple((one, two, width * factor) for one, two, width in net[1])))
                self.assertEqual(found[1], tuple((one, two, amount * factor) for one, two, amount in wishes))
                self.assertEqual(found[2], tuple(length * factor for length in lengths))
                self.assertEqual(found[3], tuple(tuple(number * factor for number in rise) for rise in rises))
                self.assertIs(accepts_against(shape, found), True)
                self.assertEqual(needed(found[1], found[3]), needed(wishes, rises) * factor ** 2)
                self.assertEqual(worth_by(found[0], found[2]), worth_by(net, lengths) * factor ** 2)

    def test_by_1_nothing_changes(self):
        told = net_against(BOTH)
        self.assertEqual(multiplied(BOTH, told, 1), told)
        six = multiplied(BOTH, told, 6)
        self.assertEqual({road[2] for road in six[0][1]} | {wish[2] for wish in six[1]}, {6})
        self.assertIs(accepts_against(BOTH, six), True)

    def raises(self, shape, value, factor, what):
        with self.assertRaises(TooLarge) as caught:
            multiplied(shape, value, factor)
        self.assertEqual(caught.exception.what, what)

    def test_too_large(self):
        told = net_against(BOTH)
        double = multiplied(BOTH, told, 2)
        self.assertIs(accepts_against(BOTH, multiplied(BOTH, double, 3)), True)
        for factor in (4, 5, 6):
            self.raises(BOTH, double, factor, "width")
        last = net_against(LAST)
        multiplied(LAST, last, 3)
        for factor in (4, 5, 6):
            self.raises(LAST, last, factor, "amount")
        wider = ((5, put(told[0][1], (0, 2), 2)), *told[1:])
        self.assertIs(accepts_against(BOTH, wider), True)
        multiplied(BOTH, wider, 3)
        self.raises(BOTH, wider, 4, "width")

    def test_the_width_is_told_before_the_amount(self):
        double = (*[(6, doubled_links(SIX[1])), doubled_links(APART)], *net_against(((0, 1), (2, 3), (4, 5)))[2:])
        shape = ((0, 1), (2, 3), (4, 5))
        self.assertIs(accepts_against(shape, double), True)
        self.raises(shape, double, 2, "amount")
        self.raises(shape, double, 3, "amount")
        self.raises(shape, double, 4, "width")


if __name__ == "__main__":
    unittest.main()
