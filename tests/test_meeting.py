"""Points 46 and 57 to 67: good wishes, ways and fences about them, and amounts taken along a path."""

import random
import unittest
from itertools import combinations, permutations

from changes import doubled, in_other_forms, put, shortened, shuffled
from judges import are_right_ways, as_fraction, is_right_path
from samples import ACROSS, BARE, FULL, ODD_KINDS, PAIR, RING, TEN, crosses, masks, met_tasks, steps, tasks
from small import APART, FIVE, SIX, TRIANGLE, against_tasks, good_tasks, odd_sums, room_of, weak_of
from wishshapes.errors import NotPossible, TooLarge
from wishshapes.meeting import accepts_meeting, is_met, meeting_evidence, most_along, taken
from wishshapes.shapes import shape_evidence

DOUBLE_RING = (4, tuple((one, other, 2) for one, other, _ in RING[1]))
DOUBLE_ACROSS = ((0, 2, 2), (1, 3, 2))
HALVES = ((0, (0, 1, 2), (1, 2)), (0, (0, 3, 2), (1, 2)), (1, (1, 0, 3), (1, 2)), (1, (1, 2, 3), (1, 2)))
WHEEL = (6, ((0, 1, 1), (0, 4, 1), (1, 2, 1), (1, 5, 2), (2, 3, 1), (2, 5, 2), (3, 4, 1), (3, 5, 2), (4, 5, 2)))


def all_paths(net, one, other):
    """Return all paths between the two points."""
    inner = [point for point in range(net[0]) if point not in (one, other)]
    found = [(one, *some, other) for many in range(len(inner) + 1) for some in permutations(inner, many)]
    return [path for path in found if is_right_path(net, one, other, path)]


def path_tasks(many=60, seed=22):
    """Return tuples of a net, wishes, the index of a wish and a path for it; good wishes and others."""
    chance = random.Random(seed)
    found = [(RING, ACROSS, 0, (0, 1, 2)), (DOUBLE_RING, DOUBLE_ACROSS, 1, (1, 0, 3))]
    pool = good_tasks(60, 23) + tasks(30, 24)
    while len(found) < many:
        net, wishes = chance.choice(pool)
        if wishes:
            wish = chance.randrange(len(wishes))
            paths = all_paths(net, wishes[wish][0], wishes[wish][1])
            if paths:
                found.append((net, wishes, wish, chance.choice(paths)))
    return found


def left_by_words(net, wishes, wish, path, amount):
    """Return what point 60 says is left."""
    points, roads = net
    widths = {road[:2]: road[2] for road in roads}
    for step in steps(path):
        widths[step] -= amount
    amounts = {asked[:2]: asked[2] for asked in wishes}
    amounts[wishes[wish][:2]] -= amount
    new_roads = tuple((*pair, widths[pair]) for pair in sorted(widths) if widths[pair])
    return (points, new_roads), tuple((*pair, amounts[pair]) for pair in sorted(amounts) if amounts[pair])


def most_possible(net, wishes, wish, path):
    """Return how much no road along the path and not the wish is less than."""
    return min([road[2] for road in net[1] if road[:2] in steps(path)] + [wishes[wish][2]])


class TestTaken(unittest.TestCase):
    def test_examples(self):
        left = ((4, ((0, 3, 1), (2, 3, 1))), ((1, 3, 1),))
        self.assertEqual(taken(RING, ACROSS, 0, (0, 1, 2), 1), left)
        self.assertEqual(taken(PAIR, ((0, 1, 5),), 0, (0, 1), 2), ((2, ((0, 1, 1),)), ((0, 1, 3),)))
        self.assertEqual(taken(PAIR, ((0, 1, 5),), 0, (0, 1), 3), ((2, ()), ((0, 1, 2),)))
        self.assertEqual(taken(PAIR, ((0, 1, 2),), 0, (0, 1), 2), ((2, ((0, 1, 1),)), ()))
        self.assertEqual(taken(PAIR, ((0, 1, 3),), 0, (0, 1), 3), ((2, ()), ()))

    def test_what_is_left(self):
        for net, wishes, wish, path in path_tasks():
            for amount in range(1, most_possible(net, wishes, wish, path) + 1):
                found = taken(net, wishes, wish, path, amount)
                self.assertEqual(found, left_by_words(net, wishes, wish, path, amount))
                self.assertEqual([type(part) for part in (found, found[0], found[0][1], found[1])], [tuple] * 4)

    def test_what_is_left_stays_even(self):
        even = 0
        for net, wishes, wish, path in path_tasks(120):
            after = [taken(net, wishes, wish, path, amount)
                     for amount in range(1, most_possible(net, wishes, wish, path) + 1)]
            self.assertTrue(all(odd_sums(*left) == odd_sums(net, wishes) for left in after))
            even += not odd_sums(net, wishes)
        self.assertGreater(even, 10)

    def test_rooms(self):
        for net, wishes, wish, path in path_tasks():
            for amount in {1, most_possible(net, wishes, wish, path)}:
                left = taken(net, wishes, wish, path, amount)
                for fence in masks(net[0]):
                    fall = sum(crosses(step, fence) for step in steps(path)) - crosses(wishes[wish], fence)
                    self.assertGreaterEqual(fall, 0)
                    self.assertEqual(room_of(*left, fence), room_of(net, wishes, fence) - amount * fall)

    def test_whole_ways_taken_one_after_another(self):
        for net, wishes, ways in met_tasks(40):
            pairs = [wish[:2] for wish in wishes]
            for index, path, amount in ways:
                place = [wish[:2] for wish in wishes].index(pairs[index])
                net, wishes = taken(net, wishes, place, path, amount)
            self.assertEqual((net[1], wishes), ((), ()))

    def test_ways_of_what_is_left_with_the_path_meet_the_wishes(self):
        checked = 0
        for net, wishes, wish, path in path_tasks(80):
            if len(net[1]) > 9 or net[0] > 6 or shape_evidence(tuple(link[:2] for link in wishes))[0] == "not":
                continue
            amount = most_along(net, wishes, wish, path)
            if amount:
                left, others = taken(net, wishes, wish, path, amount)
                places = [link[:2] for link in wishes]
                word, told = meeting_evidence(left, others)
                self.assertEqual(word, "ways")
                back = tuple((places.index(others[index][:2]), *rest) for index, *rest in told)
                value = ("ways", back + ((wish, path, (amount, 1)),))
                self.assertIs(accepts_meeting(net, wishes, value), True)
                checked += 1
        self.assertGreater(checked, 10)

    def test_too_much(self):
        for net, wishes, wish, path in path_tasks():
            width = min(road[2] for road in net[1] if road[:2] in steps(path))
            for amount in (width, width + 1, wishes[wish][2], wishes[wish][2] + 1, 10 ** 20):
                why = "road" if amount > width else "wish" if amount > wishes[wish][2] else None
                if why is None:
                    taken(net, wishes, wish, path, amount)
                    continue
                with self.assertRaises(NotPossible) as caught:
                    taken(net, wishes, wish, path, amount)
                self.assertEqual(caught.exception.why, why)

    def test_a_road_is_told_before_the_wish(self):
        net = (3, ((0, 1, 3), (1, 2, 2)))
        for amount, wanted, why in ((1, 1, None), (2, 1, "wish"), (3, 1, "road"), (3, 6, "road"), (2, 6, None)):
            if why is None:
                taken(net, ((0, 2, wanted),), 0, (0, 1, 2), amount)
                continue
            with self.assertRaises(NotPossible) as caught:
                taken(net, ((0, 2, wanted),), 0, (0, 1, 2), amount)
            self.assertEqual(caught.exception.why, why)


class TestMostAlong(unittest.TestCase):
    def test_examples(self):
        self.assertEqual(most_along(RING, ACROSS, 0, (0, 1, 2)), 0)
        self.assertEqual(most_along(DOUBLE_RING, DOUBLE_ACROSS, 0, (0, 1, 2)), 1)
        self.assertEqual(most_along(PAIR, ((0, 1, 2),), 0, (0, 1)), 2)
        self.assertEqual(most_along(PAIR, ((0, 1, 3),), 0, (0, 1)), 3)

    def test_a_path_that_crosses_a_fence_three_times(self):
        net, wishes = (4, ((0, 1, 4), (0, 2, 3), (0, 3, 2), (1, 2, 3), (2, 3, 2))), ((0, 2, 4), (1, 3, 4))
        self.assertEqual((most_possible(net, wishes, 1, (1, 0, 2, 3)), weak_of(net, wishes)), (2, []))
        self.assertEqual(room_of(net, wishes, (1, 2)), 1)
        self.assertEqual(most_along(net, wishes, 1, (1, 0, 2, 3)), 0)

    def test_a_fence_that_is_too_weak_already(self):
        self.assertEqual(most_along(PAIR, ((0, 1, 4),), 0, (0, 1)), 0)
        net = (4, ((0, 1, 6), (2, 3, 1)))
        self.assertEqual(most_along(net, ((0, 1, 1), (2, 3, 2)), 0, (0, 1)), 0)
        self.assertEqual(most_along(net, ((0, 1, 1), (2, 3, 1)), 0, (0, 1)), 1)

    def test_greatest_amount_behind_which_no_fence_is_too_weak(self):
        seen = set()
        for net, wishes, wish, path in path_tasks(150):
            right = [amount for amount in range(1, most_possible(net, wishes, wish, path) + 1)
                     if not weak_of(*left_by_words(net, wishes, wish, path, amount))]
            wanted = max(right, default=0)
            self.assertEqual(most_along(net, wishes, wish, path), wanted)
            seen.add(wanted)
        self.assertTrue({0, 1, 2} <= seen)

    def test_some_path_lets_more_be_taken(self):
        checked = 0
        for net, wishes in good_tasks():
            if not odd_sums(net, wishes) and not weak_of(net, wishes):
                for index, (one, other, _) in enumerate(wishes):
                    found = [most_along(net, wishes, index, path) for path in all_paths(net, one, other)]
                    self.assertGreaterEqual(max(found), 1)
                    checked += 1
        self.assertGreater(checked, 50)


class TestMet(unittest.TestCase):
    def test_examples(self):
        self.assertEqual((is_met(RING, ACROSS), is_met(BARE, ((0, 1, 1),))), (True, False))
        self.assertEqual(meeting_evidence(RING, ((0, 2, 3),)), ("fence", (1, 2)))
        self.assertEqual(meeting_evidence(BARE, ((0, 1, 1),)), ("fence", (1,)))

    def test_point_67(self):
        word, told = meeting_evidence(RING, ACROSS)
        self.assertEqual((word, {amount for _, _, amount in told}), ("ways", {(1, 2)}))
        self.assertEqual({path for _, path, _ in told}, {path for _, path, _ in HALVES})
        for first in ((0, 1, 2), (0, 3, 2)):
            for second in ((1, 0, 3), (1, 2, 3)):
                value = ("ways", ((0, first, (1, 1)), (1, second, (1, 1))))
                self.assertIs(accepts_meeting(RING, ACROSS, value), False)
        word, told = meeting_evidence(DOUBLE_RING, DOUBLE_ACROSS)
        self.assertEqual((word, {amount for _, _, amount in told}), ("ways", {(1, 1)}))
        self.assertEqual({path for _, path, _ in told}, {path for _, path, _ in HALVES})

    def test_no_wishes(self):
        for net in (RING, BARE, (6, ()), SIX):
            self.assertEqual((is_met(net, ()), meeting_evidence(net, ())), (True, ("ways", ())))

    def test_told_evidence(self):
        even = kinds = 0
        for net, wishes in good_tasks(250):
            word, told = meeting_evidence(net, wishes)
            weak = weak_of(net, wishes)
            self.assertIs(is_met(net, wishes), not weak)
            self.assertIs(accepts_meeting(net, wishes, (word, told)), True)
            if weak:
                self.assertEqual((word, told), ("fence", weak[0]))
                continue
            self.assertEqual(word, "ways")
            self.assertTrue(are_right_ways(net, wishes, told))
            most = 2 if odd_sums(net, wishes) else 1
            self.assertTrue(all(amount[1] <= most for _, _, amount in told))
            even += most == 1 and bool(wishes)
            kinds |= {"stars": 1, "four": 2, "ring": 4}[shape_evidence(tuple(wish[:2] for wish in wishes))[1]]
        self.assertGreater(even, 30)
        self.assertEqual(kinds, 7)

    def test_halves_are_needed(self):
        for width in (1, 3, 5):
            net = (4, tuple((one, other, width) for one, other, _ in RING[1]))
            wishes = ((0, 2, width), (1, 3, width))
            word, told = meeting_evidence(net, wishes)
            self.assertEqual((word, are_right_ways(net, wishes, told)), ("ways", True))
            self.assertEqual({amount for _, _, amount in told}, {(width, 2)})

    def test_whole_ways_with_small_and_great_sums(self):
        for width in (2, 4, 6):
            net = (4, tuple((one, other, width) for one, other, _ in RING[1]))
            word, told = meeting_evidence(net, ((0, 2, width), (1, 3, width)))
            self.assertEqual((word, {amount for _, _, amount in told}), ("ways", {(width // 2, 1)}))

    def test_a_ring_of_five_within_a_wheel(self):
        wishes = ((0, 2, 1), (0, 3, 1), (1, 3, 1), (1, 4, 1), (2, 4, 1))
        self.assertEqual(shape_evidence(tuple(wish[:2] for wish in wishes))[1], "ring")
        self.assertEqual((odd_sums(WHEEL, wishes), weak_of(WHEEL, wishes)), ([], []))
        word, told = meeting_evidence(WHEEL, wishes)
        self.assertEqual((word, are_right_ways(WHEEL, wishes, told)), ("ways", True))
        self.assertTrue(all(amount == (1, 1) for _, _, amount in told))

    def test_exactly_one_word(self):
        for net, wishes in good_tasks(80):
            found = [fence for fence in masks(net[0]) if accepts_meeting(net, wishes, ("fence", fence))]
            self.assertEqual(found, weak_of(net, wishes))
            self.assertEqual(meeting_evidence(net, wishes)[0], "fence" if found else "ways")

    def test_wider_and_more_roads_and_less_wishes(self):
        checked = 0
        for net, wishes in good_tasks(80):
            if weak_of(net, wishes):
                continue
            points, roads = net
            changed = []
            for index, road in enumerate(roads):
                if road[2] < 6:
                    changed.append(((points, put(roads, (index, 2), road[2] + 1)), wishes))
            joined = [road[:2] for road in roads]
            for pair in combinations(range(points), 2):
                if pair not in joined and len(roads) < 9:
                    changed.append(((points, tuple(sorted(roads + ((*pair, 1),)))), wishes))
            for index, wish in enumerate(wishes):
                changed.append((net, wishes[:index] + wishes[index + 1:]))
                if wish[2] > 1:
                    changed.append((net, put(wishes, (index, 2), wish[2] - 1)))
            for other, asked in changed:
                self.assertIs(is_met(other, asked), True)
                self.assertEqual(meeting_evidence(other, asked)[0], "ways")
                checked += 1
        self.assertGreater(checked, 200)


class TestBounds(unittest.TestCase):
    def raises(self, error, word, net, wishes):
        for function in (is_met, meeting_evidence):
            with self.assertRaises(error) as caught:
                function(net, wishes)
            found = caught.exception.why if error is NotPossible else caught.exception.what
            self.assertEqual(found, word)

    def test_wishes_that_are_not_good(self):
        self.raises(NotPossible, "shape", FIVE, TRIANGLE)
        self.raises(NotPossible, "shape", SIX, APART)
        self.raises(NotPossible, "shape", (7, ()), ((0, 1, 1), (2, 3, 1), (4, 5, 1)))
        self.raises(NotPossible, "shape", FULL, TRIANGLE)

    def test_points(self):
        self.assertIs(is_met((6, ()), ()), True)
        self.assertEqual(meeting_evidence((6, ((4, 5, 1),)), ((4, 5, 1),)), ("ways", ((0, (4, 5), (1, 1)),)))
        self.raises(TooLarge, "net", (7, ()), ())
        self.raises(TooLarge, "net", (7, ()), ((0, 1, 1),))

    def test_roads(self):
        pairs = list(combinations(range(6), 2))
        nine = tuple((*pair, 6) for pair in pairs[:9])
        wishes = ((0, 1, 6), (0, 5, 6), (1, 5, 6))
        self.assertIs(is_met((6, nine), wishes), True)
        self.assertEqual(meeting_evidence((6, nine), wishes)[0], "ways")
        self.raises(TooLarge, "net", (6, nine + ((2, 3, 1),)), wishes)
        self.raises(TooLarge, "net", (6, nine + ((2, 3, 1),)), ())

    def test_wishes_as_many_as_are_let(self):
        ten = tuple((one, other, 1) for one, other in combinations(range(6), 2) if one in (0, 1) or other == 1)[:9]
        star = (6, tuple((0, other, 6) for other in range(1, 6)) + tuple((1, other, 6) for other in range(2, 6)))
        word, told = meeting_evidence(star, ten)
        self.assertEqual((word, are_right_ways(star, ten, told)), ("ways", True))

    def test_the_judge_takes_every_net_and_all_wishes(self):
        self.assertIs(accepts_meeting((7, ()), (), ("ways", ())), True)
        self.assertIs(accepts_meeting(FULL, TEN, ("ways", ())), False)
        self.assertIs(accepts_meeting(FULL, (), ("ways", ())), True)


class TestAccepted(unittest.TestCase):
    def accepted(self, value, wanted, net=RING, wishes=ACROSS):
        with self.subTest(value=value):
            self.assertIs(accepts_meeting(net, wishes, value), wanted)

    def test_ways_and_fences(self):
        self.accepted(("ways", HALVES), True)
        for ways in permutations(HALVES):
            self.accepted(("ways", ways), True)
        self.accepted(("fence", (1,)), False)
        self.accepted(("fence", (1, 2)), False)
        self.accepted(("fence", (1, 2)), True, RING, ((0, 2, 2), (1, 3, 1)))
        self.accepted(("ways", HALVES), False, RING, ((0, 2, 2), (1, 3, 1)))

    def test_wishes_that_are_not_good(self):
        for net, wishes in against_tasks():
            for fence in masks(net[0]):
                self.accepted(("fence", fence), False, net, wishes)
            self.accepted(("ways", ()), False, net, wishes)
        for net, wishes, ways in met_tasks():
            value = tuple((index, path, (amount, 1)) for index, path, amount in ways)
            self.accepted(("ways", value), True, net, wishes)
            for index, wish in enumerate(wishes):
                if wish[2] < 6:
                    self.accepted(("ways", value), False, net, put(wishes, (index, 2), wish[2] + 1))
                if wish[2] > 1:
                    self.accepted(("ways", value), False, net, put(wishes, (index, 2), wish[2] - 1))

    def test_fractions_of_every_size(self):
        thirds = ((0, (0, 1, 2), (1, 3)), (0, (0, 3, 2), (2, 3)), (1, (1, 2, 3), (1, 3)), (1, (1, 0, 3), (2, 3)))
        self.accepted(("ways", thirds), False)
        self.accepted(("ways", thirds[:2]), True, RING, ACROSS[:1])
        double = tuple((index, path, (2 * amount[0], amount[1])) for index, path, amount in thirds)
        self.accepted(("ways", double), False)
        wide = (4, tuple((one, other, 3) for one, other, _ in RING[1]))
        self.accepted(("ways", double), True, wide, DOUBLE_ACROSS)

    def test_numbers_paths_and_indexes_changed(self):
        for net, wishes in good_tasks(60, 25):
            word, told = meeting_evidence(net, wishes)
            if word == "fence":
                continue
            for at, (index, path, amount) in enumerate(told):
                fractions = ((1, 2), (1, 1), (3, 2), (2, 1), (1, 3), (5, 2))
                changed = [put(told, (at, 2), fraction) for fraction in fractions]
                changed += [put(told, (at, 1, place), point) for place in range(len(path)) for point in range(net[0])]
                changed += [put(told, (at, 0), other) for other in range(len(wishes))]
                for ways in [*changed, *shortened(told), *doubled(told)]:
                    self.accepted(("ways", ways), are_right_ways(net, wishes, ways), net, wishes)

    def test_indexes_that_are_none(self):
        for wrong in (-1, -2, 2, True, False, 0.0, "0", None, (0,), 10 ** 20):
            for at in range(4):
                self.accepted(("ways", put(HALVES, (at, 0), wrong)), False)

    def test_amounts_below_0_that_make_up_for_others(self):
        for ways in (((0, (0, 1, 2), (2, 1)), (0, (0, 3, 2), (-1, 1))),
                     ((0, (0, 1, 2), (1, 1)), (0, (0, 3, 2), (0, 1)))):
            self.assertIs(accepts_meeting(RING, ((0, 2, 1),), ("ways", ways)), False)
            self.assertIs(accepts_meeting(DOUBLE_RING, ((0, 2, 1),), ("ways", ways)), False)

    def test_fractions_that_are_none(self):
        for wrong in ((2, 4), (0, 1), (1, 0), (-1, -2), (1, -2), [1, 2], 1, 0.5, (1,), (1, 2, 1), (True, 2), (1, 2.0),
                      None):
            self.accepted(("ways", put(HALVES, (0, 2), wrong)), False)
            self.accepted(("ways", HALVES + 2 * ((0, (0, 1, 2), wrong),)), False)

    def test_fences_that_are_none(self):
        for wrong in ((), (0,), (0, 2), (2, 1), (1, 1), (4,), (-1,), [1, 2], (True, 2), (1, 2, 3, 4), 1, None):
            self.accepted(("fence", wrong), False, RING, ((0, 2, 6), (1, 3, 6)))

    def test_other_forms_and_kinds(self):
        weak = ((0, 2, 2), (1, 3, 1))
        for wishes, value in ((ACROSS, ("ways", HALVES)), ((), ("ways", ())), (weak, ("fence", (1, 2)))):
            self.accepted(value, True, RING, wishes)
            wrong = in_other_forms(value) + shortened(value) + doubled(value) + shuffled(value) + [*ODD_KINDS]
            wrong += [(word, kind) for kind in ODD_KINDS for word in ("ways", "fence", "lengths")]
            wrong += [(kind, value[1]) for kind in ODD_KINDS]
            wrong += [("lengths", (1, 1, 1, 1), ((0, 1, 2, 1),) * 2), ("way", value[1]), ("fences", value[1])]
            for other in wrong:
                self.accepted(other, False, RING, wishes)

    def test_samples(self):
        self.assertEqual(sum(as_fraction(amount) for _, _, amount in HALVES), 2)


if __name__ == "__main__":
    unittest.main()
