"""Points 114 to 123: rooms of wishes and roads, the room tree, and wishes that go together or clash."""

import random
import unittest
from itertools import combinations

from changes import doubled, form_of, in_other_forms, put, shortened, shuffled
from judges import are_right_ways
from samples import ACROSS, FULL, ODD_KINDS, RING, TEN, crosses, masks, tasks
from small import FIVE, TRIANGLE, against_tasks, good_tasks, other_tasks, room_of, weak_of
from wishshapes.errors import BadValue, NotPossible, TooLarge
from wishshapes.lengths import can_be_met
from wishshapes.meeting import meeting_evidence
from wishshapes.rooms import (accepts_clash, accepts_road, accepts_wish, clash_evidence, clashes, given_up,
                              go_together, road_evidence, road_room, room_between, room_for, room_tree, sure_wishes,
                              wish_evidence, wish_room)
from wishshapes.shapes import is_enough

ROW = (3, ((0, 1, 3), (1, 2, 2)))
END_TO_END = ((0, 2, 1),)
THREE = ((0, 1, 1), (0, 2, 1), (1, 3, 1))
STARS = tuple(sorted(((0, 1, 1), (0, 2, 1), (0, 3, 1), (0, 4, 1), (0, 5, 1), (0, 6, 1), (1, 2, 1), (1, 3, 1), (1, 4, 1),
                      (1, 5, 1))))


def good(wishes):
    """Tell whether the wishes are good."""
    return is_enough(tuple(wish[:2] for wish in wishes))


def strong_tasks(many=70, seed=100):
    """Return pairs of a net and good wishes that leave no fence too weak."""
    found = [(ROW, END_TO_END), (RING, ACROSS), ((3, ((0, 1, 6), (0, 2, 6), (1, 2, 6))), ((0, 1, 1), (0, 2, 1)))]
    return found + [(net, wishes) for net, wishes in good_tasks(many, seed) if not weak_of(net, wishes)]


def every_task():
    """Return pairs of a net and wishes of all kinds, good or not, met or not."""
    return tasks(60, 101) + good_tasks(40, 102) + other_tasks(40, 103) + against_tasks()


def least_room(net, wishes, pair):
    """Return the least room of the fences that the pair crosses, and the first fence that has it."""
    return min((room_of(net, wishes, fence), fence) for fence in masks(net[0]) if crosses(pair, fence))


def least_along(tree, one, other):
    """Return the least room of the pairs on the path of pairs of the tree from the one point to the other."""
    least = {one: None}
    while other not in least:
        for first, second, number in tree:
            for here, there in ((first, second), (second, first)):
                if here in least and there not in least:
                    least[there] = number if least[here] is None else min(number, least[here])
    return least[other]


def with_more(wishes, number, more):
    """Return the wishes with this one greater by so much."""
    return put(wishes, (number, 2), wishes[number][2] + more)


def narrowed(net, road, step):
    """Return the net with this road narrower by the step."""
    points, roads = net
    one, other, width = roads[road]
    new = ((one, other, width - step),) if step < width else ()
    return points, roads[:road] + new + roads[road + 1:]


def some_of(wishes, indexes):
    """Return the wishes with these indexes."""
    return tuple(wish for index, wish in enumerate(wishes) if index in indexes)


def all_sets(many):
    """Return all ascending tuples of indexes."""
    return sorted(some for size in range(many + 1) for some in combinations(range(many), size))


def all_clashes(net, wishes):
    """Return all tuples of indexes of wishes that leave a fence too weak, but none without any one of them."""
    weak = {some: bool(weak_of(net, some_of(wishes, some))) for some in all_sets(len(wishes))}
    return [some for some in sorted(weak) if weak[some] and not any(weak[less] for less in shortened(some))]


def clashing_tasks(many=50, seed=104):
    """Return pairs of a net and up to 8 good wishes, in most of which some clash."""
    chance = random.Random(seed)
    found = [(RING, THREE), (RING, ((0, 1, 3), (0, 2, 1))), (RING, ()), ((2, ()), ((0, 1, 1),))]
    pool = [(net, wishes) for net, wishes in good_tasks(80, seed + 1) + tasks(60, seed + 2)
            if good(wishes) and 0 < len(wishes) <= 8]
    while len(found) < many:
        net, wishes = chance.choice(pool)
        found.append((net, tuple((one, other, chance.randint(1, 4)) for one, other, _ in wishes)))
    return found


class RoomsCase(unittest.TestCase):
    def raises(self, kind, attribute, word, function, *arguments):
        with self.subTest(function=function.__name__, arguments=arguments):
            with self.assertRaises(kind) as caught:
                function(*arguments)
            self.assertEqual(getattr(caught.exception, attribute), word)


class TestRoomBetween(RoomsCase):
    def test_examples(self):
        self.assertEqual((room_between(ROW, END_TO_END, 0, 1), room_between(ROW, END_TO_END, 1, 2)), (2, 1))
        self.assertEqual(room_tree(ROW, END_TO_END), ((0, 1, 2), (0, 2, 1)))
        self.assertEqual((room_between((2, ()), ((0, 1, 6),), 0, 1), room_tree((2, ()), ())), (-6, ((0, 1, 0),)))

    def test_all_fences_gone_through(self):
        below = beyond = 0
        for net, wishes in every_task():
            for one, other in combinations(range(net[0]), 2):
                found = room_between(net, wishes, one, other)
                self.assertEqual(found, least_room(net, wishes, (one, other))[0])
                below, beyond = below + (found < 0), beyond + (found > 6)
        self.assertTrue(below > 50 and beyond > 50)

    def test_of_three_rooms_the_least_one_comes_twice(self):
        for net, wishes in every_task():
            for one, two, three in combinations(range(net[0]), 3):
                rooms = sorted(room_between(net, wishes, *pair) for pair in ((one, two), (two, three), (one, three)))
                self.assertEqual(rooms[0], rooms[1])

    def test_the_tree_as_it_is_taken(self):
        for net, wishes in every_task():
            pairs = list(combinations(range(net[0]), 2))
            rooms = {pair: least_room(net, wishes, pair)[0] for pair in pairs}
            sets, wanted = [{point} for point in range(net[0])], []
            while len(sets) > 1:
                free = [pair for pair in pairs if not any(set(pair) <= some for some in sets)]
                most = max(rooms[pair] for pair in free)
                chosen = [pair for pair in free if rooms[pair] == most][0]
                wanted.append((*chosen, most))
                joined = [some for some in sets if some & set(chosen)]
                sets = [some for some in sets if some not in joined] + [joined[0] | joined[1]]
            self.assertEqual(room_tree(net, wishes), tuple(wanted))

    def test_the_tree_tells_every_room(self):
        for net, wishes in every_task():
            tree = room_tree(net, wishes)
            self.assertEqual([row[2] for row in tree], sorted((row[2] for row in tree), reverse=True))
            for one, other in combinations(range(net[0]), 2):
                self.assertEqual(least_along(tree, one, other), room_between(net, wishes, one, other))

    def test_wishes_of_every_shape_and_number(self):
        self.assertEqual(room_between(FIVE, TRIANGLE, 0, 1), 0)
        self.assertEqual(room_tree(FULL, TEN)[0][2],
                         max(least_room(FULL, TEN, p)[0] for p in combinations(range(7), 2)))


class TestRoomFor(RoomsCase):
    def test_examples(self):
        self.assertEqual(room_for(ROW, END_TO_END, 0, 1), 2)
        self.assertEqual(room_for((2, ()), (), 0, 1), 0)
        self.assertEqual(room_for((3, ((0, 1, 6), (0, 2, 6), (1, 2, 6))), (), 0, 2), 12)

    def test_a_further_wish(self):
        many = 0
        for net, wishes in strong_tasks():
            for one, other in combinations(range(net[0]), 2):
                if (one, other) not in [wish[:2] for wish in wishes]:
                    further = tuple(sorted(wishes + ((one, other, 1),)))
                    if not good(further):
                        self.raises(NotPossible, "why", "shape", room_for, net, wishes, one, other)
                        continue
                    found = room_for(net, wishes, one, other)
                    number = further.index((one, other, 1))
                    self.assertEqual(found, room_between(net, wishes, one, other))
                    self.assertEqual(bool(weak_of(net, with_more(further, number, found - 1))), False)
                    self.assertEqual(bool(weak_of(net, with_more(further, number, found))), True)
                    many += 1
        self.assertGreater(many, 100)

    def test_a_further_wish_is_met(self):
        for net, wishes in strong_tasks(40, 105):
            for one, other in combinations(range(net[0]), 2):
                if (one, other) not in [wish[:2] for wish in wishes] and len(wishes) < 5:
                    further = [tuple(sorted(wishes + ((one, other, amount),))) for amount in range(1, 7)]
                    if good(further[0]):
                        met = [amount for amount, more in enumerate(further, 1) if can_be_met(net, more)]
                        self.assertEqual(max(met, default=0), min(6, room_for(net, wishes, one, other)))

    def test_errors_in_their_order(self):
        self.raises(NotPossible, "why", "wish", room_for, RING, ACROSS, 0, 2)
        # Ten wishes, one of them between the two points; then none of them.
        self.raises(NotPossible, "why", "wish", room_for, (7, ()), TEN, *TEN[0][:2])
        self.raises(TooLarge, "what", "wishes", room_for, (7, ()), TEN, 0, 1)
        self.raises(TooLarge, "what", "wishes", room_for, (7, ()), STARS, 5, 6)
        self.raises(NotPossible, "why", "shape", room_for, (7, ()), STARS[:9], 5, 6)
        self.raises(NotPossible, "why", "fence", room_for, (7, ()), STARS[:9], 1, 6)
        # Good wishes that are not good any more with the further one, and some fence too weak.
        self.raises(NotPossible, "why", "shape", room_for, (6, ()), ((0, 1, 1), (2, 3, 1)), 4, 5)
        self.raises(NotPossible, "why", "fence", room_for, (6, ()), ((0, 1, 1), (2, 3, 1)), 1, 2)
        self.raises(NotPossible, "why", "wish", room_for, FIVE, TRIANGLE, 0, 1)
        self.raises(NotPossible, "why", "shape", room_for, FIVE, TRIANGLE, 0, 3)

    def test_large_nets_are_let(self):
        self.assertEqual(room_for((7, tuple((0, other, 2) for other in range(1, 7))), ((0, 1, 1),), 0, 6), 2)


class TestRoomOfWishes(RoomsCase):
    def test_examples(self):
        self.assertEqual(wish_room(ROW, END_TO_END, 0), 1)
        self.assertEqual((wish_room(RING, ACROSS, 0), wish_room(RING, ACROSS, 1)), (0, 0))
        self.assertEqual(wish_room((3, ((0, 1, 6), (0, 2, 6), (1, 2, 6))), ((0, 1, 1),), 0), 11)

    def test_the_greatest_integer(self):
        beyond = 0
        for net, wishes in strong_tasks():
            for number, wish in enumerate(wishes):
                found = wish_room(net, wishes, number)
                self.assertEqual(found, least_room(net, wishes, wish)[0])
                self.assertEqual(weak_of(net, with_more(wishes, number, found)), [])
                self.assertNotEqual(weak_of(net, with_more(wishes, number, found + 1)), [])
                beyond += wish[2] + found > 6
                if len(wishes) <= 5 and wish[2] + found < 6:
                    self.assertIs(can_be_met(net, with_more(wishes, number, found)), True)
                    self.assertIs(can_be_met(net, with_more(wishes, number, found + 1)), False)
        self.assertGreater(beyond, 10)

    def test_evidence(self):
        for net, wishes in strong_tasks():
            for number, wish in enumerate(wishes):
                room, fence = least_room(net, wishes, wish)
                found = wish_evidence(net, wishes, number)
                self.assertEqual((found[0], found[2]), (room, fence))
                self.assertTrue(are_right_ways(net, with_more(wishes, number, room), found[1]))
                self.assertIs(accepts_wish(net, wishes, number, found), True)

    def test_every_fence_and_every_integer(self):
        for net, wishes in strong_tasks(30, 106):
            for number, wish in enumerate(wishes):
                room, ways, _ = wish_evidence(net, wishes, number)
                for fence in masks(net[0]):
                    wanted = crosses(wish, fence) and room_of(net, wishes, fence) == room
                    self.assertIs(accepts_wish(net, wishes, number, (room, ways, fence)), wanted)
                    # Ways that meet the wishes as they are do not meet them with more.
                    plain = meeting_evidence(net, wishes)[1]
                    wanted = wanted and room == 0
                    self.assertIs(accepts_wish(net, wishes, number, (room, plain, fence)), wanted)
                    other = room_of(net, wishes, fence)
                    if other > room:
                        self.assertIs(accepts_wish(net, wishes, number, (other, ways, fence)), False)

    def test_wishes_that_are_not_good(self):
        single = (5, FIVE[1] + ((3, 4, 1),))
        ways = tuple((index, (one, between, other), (1, 2)) for index, (one, other, _) in enumerate(TRIANGLE[:3])
                     for between in (3, 4)) + ((3, (3, 4), (1, 1)),)
        self.assertIs(good(TRIANGLE), False)
        for number, wish in enumerate(TRIANGLE):
            for fence in masks(5):
                wanted = crosses(wish, fence) and room_of(single, TRIANGLE, fence) == 0
                self.assertIs(accepts_wish(single, TRIANGLE, number, (0, ways, fence)), wanted)
                self.assertIs(accepts_wish(FIVE, TRIANGLE, number, (0, ways, fence)), False)
        self.raises(NotPossible, "why", "shape", wish_evidence, single, TRIANGLE, 0)
        self.raises(NotPossible, "why", "shape", wish_room, single, TRIANGLE, 0)

    def test_rooms_below_0(self):
        net, wishes = (2, ((0, 1, 2),)), ((0, 1, 3),)
        ways = ((0, (0, 1), (2, 1)),)
        self.assertEqual(room_between(net, wishes, 0, 1), -1)
        self.assertIs(accepts_wish(net, wishes, 0, (-1, ways, (1,))), False)
        self.assertIs(accepts_wish(net, ((0, 1, 2),), 0, (0, ways, (1,))), True)
        self.assertIs(accepts_road(net, wishes, 0, (-1, ((0, (0, 1), (3, 1)),), (1,))), False)
        self.assertIs(accepts_road(net, ((0, 1, 2),), 0, (0, ways, (1,))), True)

    def test_more_than_6_of_wishes_that_are_not_good(self):
        net = (7, ((0, 1, 6), (0, 2, 6), (1, 2, 6), (3, 4, 2), (5, 6, 1)))
        wishes = ((0, 1, 1), (3, 4, 1), (5, 6, 1))
        self.assertIs(good(wishes), False)
        ways = ((0, (0, 1), (6, 1)), (0, (0, 2, 1), (6, 1)), (1, (3, 4), (1, 1)), (2, (5, 6), (1, 1)))
        self.assertIs(accepts_wish(net, wishes, 0, (11, ways, (1,))), True)
        self.assertIs(accepts_wish(net, wishes, 0, (11, ways, (1, 3, 4))), True)
        self.assertIs(accepts_wish(net, wishes, 0, (11, ways, (1, 2))), True)
        self.assertIs(accepts_wish(net, wishes, 0, (11, ways, (1, 3))), False)
        self.assertIs(accepts_wish(net, wishes, 0, (11, ways, (2,))), False)
        self.assertIs(accepts_wish(net, wishes, 0, (10, ways, (1,))), False)
        more = ((0, (0, 1), (1, 1)), (1, (3, 4), (2, 1)), ways[3])
        self.assertIs(accepts_wish(net, wishes, 1, (1, more, (3,))), True)
        self.assertIs(accepts_wish(net, wishes, 1, (1, more, (4,))), True)
        self.assertIs(accepts_wish(net, wishes, 1, (1, ways, (4,))), False)
        self.assertIs(accepts_wish(net, wishes, 1, (0, more, (4,))), False)

    def test_other_forms_and_kinds(self):
        for net, wishes in ((ROW, END_TO_END), (RING, ACROSS)):
            value = wish_evidence(net, wishes, 0)
            wrong = [other for other in in_other_forms(value) if form_of(other) != form_of(value)]
            wrong += shortened(value) + doubled(value) + shuffled(value) + [*ODD_KINDS]
            wrong += [put(value, (index,), kind) for index in range(3) for kind in ODD_KINDS]
            wrong += [put(value, (1, 0), kind) for kind in ODD_KINDS] + [put(value, (0,), value[0] + 1)]
            wrong += [put(value, (2,), fence) for fence in ((), (0,), (0, 1), (net[0],), (2, 1), (1, 1), (True,), None)]
            wrong += [put(value, (1,), ways) for ways in shortened(value[1]) + doubled(value[1])]
            for other in wrong:
                with self.subTest(value=other):
                    self.assertIs(accepts_wish(net, wishes, 0, other), False)


class TestRoomOfRoads(RoomsCase):
    def test_examples(self):
        self.assertEqual((road_room(ROW, END_TO_END, 0), road_room(ROW, END_TO_END, 1)), (2, 1))
        self.assertIs(accepts_road(ROW, END_TO_END, 0, (2, ((0, (0, 1, 2), (1, 1)),), (1, 2))), True)
        self.assertIs(accepts_road(ROW, (), 1, (2, (), None)), True)

    def test_the_greatest_integer(self):
        whole = 0
        for net, wishes in strong_tasks():
            for road, (one, other, width) in enumerate(net[1]):
                found = road_room(net, wishes, road)
                self.assertEqual(found, min(width, least_room(net, wishes, (one, other))[0]))
                self.assertEqual(weak_of(narrowed(net, road, found), wishes), [])
                if found < width:
                    self.assertNotEqual(weak_of(narrowed(net, road, found + 1), wishes), [])
                    if len(wishes) <= 5:
                        self.assertIs(can_be_met(narrowed(net, road, found + 1), wishes), False)
                if len(wishes) <= 5:
                    self.assertIs(can_be_met(narrowed(net, road, found), wishes), True)
                whole += found == width
        self.assertGreater(whole, 10)

    def test_evidence(self):
        nones = 0
        for net, wishes in strong_tasks():
            for road, (one, other, width) in enumerate(net[1]):
                room, fence = least_room(net, wishes, (one, other))
                wanted = (room, fence) if room < width else (width, None)
                found = road_evidence(net, wishes, road)
                self.assertEqual((found[0], found[2]), wanted)
                self.assertTrue(are_right_ways(narrowed(net, road, found[0]), wishes, found[1]))
                self.assertIs(accepts_road(net, wishes, road, found), True)
                nones += found[2] is None
        self.assertGreater(nones, 10)

    def test_none_stands_for_the_whole_width_alone(self):
        for net, wishes in strong_tasks(30, 107):
            for road, (one, other, width) in enumerate(net[1]):
                room, ways, fence = road_evidence(net, wishes, road)
                for told in (None, *masks(net[0])):
                    if room == width:
                        wanted = told is None
                    else:
                        wanted = told is not None and crosses((one, other), told)
                        wanted = wanted and room_of(net, wishes, told) == room
                    self.assertIs(accepts_road(net, wishes, road, (room, ways, told)), wanted)

    def test_a_fence_with_the_room_of_the_whole_width(self):
        net = (2, ((0, 1, 3),))
        self.assertEqual(road_evidence(net, (), 0), (3, (), None))
        self.assertIs(accepts_road(net, (), 0, (3, (), (1,))), False)
        self.assertIs(accepts_road(net, (), 0, (2, (), None)), False)
        self.assertIs(accepts_road(net, (), 0, (2, (), (1,))), False)
        self.assertIs(accepts_road(net, (), 0, (4, (), None)), False)

    def test_no_path_goes_along_a_road_that_is_gone(self):
        net = (3, ((0, 1, 1), (0, 2, 1), (1, 2, 1)))
        wishes = ((0, 1, 1),)
        self.assertIs(accepts_road(net, wishes, 0, (1, ((0, (0, 2, 1), (1, 1)),), None)), True)
        self.assertIs(accepts_road(net, wishes, 0, (1, ((0, (0, 1), (1, 1)),), None)), False)
        self.assertIs(accepts_road(net, wishes, 1, (1, ((0, (0, 2, 1), (1, 1)),), None)), False)
        self.assertIs(accepts_road(net, wishes, 1, (1, ((0, (0, 1), (1, 1)),), None)), True)

    def test_wishes_that_are_not_good(self):
        net = (7, ((0, 1, 3), (2, 3, 1), (4, 5, 2), (5, 6, 1)))
        wishes = ((0, 1, 1), (2, 3, 1), (4, 5, 1))
        ways = tuple((index, wish[:2], (1, 1)) for index, wish in enumerate(wishes))
        self.assertIs(good(wishes), False)
        self.assertIs(accepts_road(net, wishes, 0, (2, ways, (1,))), True)
        self.assertIs(accepts_road(net, wishes, 0, (1, ways, (1,))), False)
        self.assertIs(accepts_road(net, wishes, 0, (3, ways, None)), False)
        self.assertIs(accepts_road(net, wishes, 1, (0, ways, (3,))), True)
        self.assertIs(accepts_road(net, wishes, 3, (1, ways, None)), True)
        self.assertIs(accepts_road(net, wishes, 3, (1, ways, (6,))), False)
        self.raises(NotPossible, "why", "shape", road_room, net, wishes, 0)
        self.raises(NotPossible, "why", "shape", road_evidence, net, wishes, 0)

    def test_other_forms_and_kinds(self):
        for net, wishes in ((ROW, END_TO_END), (RING, ACROSS), ((2, ((0, 1, 2),)), ((0, 1, 1),))):
            value = road_evidence(net, wishes, 0)
            wrong = [other for other in in_other_forms(value) if form_of(other) != form_of(value)]
            wrong += shortened(value) + doubled(value) + shuffled(value) + [*ODD_KINDS]
            wrong += [put(value, (index,), kind) for index in range(3) for kind in ODD_KINDS]
            wrong += [put(value, (1, 0), kind) for kind in ODD_KINDS] + [put(value, (0,), value[0] + 1)]
            wrong += [put(value, (1,), ways) for ways in shortened(value[1]) + doubled(value[1])]
            for other in wrong:
                with self.subTest(value=other):
                    self.assertIs(accepts_road(net, wishes, 0, other), False)
        self.assertIs(accepts_road((2, ((0, 1, 1),)), (), 0, (True, (), None)), False)
        for kind in ODD_KINDS:
            self.assertIs(accepts_road((2, ((0, 1, 1),)), (), 0, (1, (), kind)), kind is None)


class TestTogether(RoomsCase):
    def test_examples(self):
        self.assertEqual((clashes(RING, THREE), sure_wishes(RING, THREE), given_up(RING, THREE)),
                         ([(0, 1, 2)], (), (0,)))
        two = ((0, 1, 3), (0, 2, 1))
        self.assertEqual((clashes(RING, two), sure_wishes(RING, two), given_up(RING, two)), ([(0,)], (1,), (0,)))
        self.assertEqual((clashes(RING, ()), sure_wishes(RING, ()), given_up(RING, ())), ([], (), ()))

    def test_point_123(self):
        self.assertEqual((room_of(ROW, END_TO_END, (1, 2)), room_of(ROW, END_TO_END, (2,))), (2, 1))
        self.assertEqual((road_room(ROW, END_TO_END, 0), road_room(ROW, END_TO_END, 1)), (2, 1))
        self.assertEqual(wish_room(ROW, END_TO_END, 0), 1)
        for two in combinations(range(3), 2):
            self.assertIs(go_together(RING, THREE, two), True)
        self.assertEqual(clash_evidence(RING, THREE, (0, 1, 2))[0], (1, 2))

    def test_all_sets_gone_through(self):
        together = 0
        for net, wishes in clashing_tasks():
            for indexes in all_sets(len(wishes)):
                found = go_together(net, wishes, indexes)
                self.assertIs(found, not weak_of(net, some_of(wishes, indexes)))
                together += found
            self.assertIs(go_together(net, wishes, ()), True)
        self.assertGreater(together, 100)

    def test_go_together_if_ways_meet_them(self):
        for net, wishes in clashing_tasks(20, 108):
            if net[0] <= 6 and len(net[1]) <= 9 and len(wishes) <= 5:
                for indexes in all_sets(len(wishes)):
                    self.assertIs(go_together(net, wishes, indexes), can_be_met(net, some_of(wishes, indexes)))

    def test_clashes_sure_wishes_and_given_up(self):
        sizes = set()
        for net, wishes in clashing_tasks():
            wanted = all_clashes(net, wishes)
            self.assertEqual(clashes(net, wishes), wanted)
            sizes |= {len(clash) for clash in wanted}
            inside = {index for clash in wanted for index in clash}
            self.assertEqual(sure_wishes(net, wishes), tuple(i for i in range(len(wishes)) if i not in inside))
            free = [some for some in all_sets(len(wishes)) if all(set(some) & set(clash) for clash in wanted)]
            fewest = min(len(some) for some in free)
            self.assertEqual(given_up(net, wishes), min(some for some in free if len(some) == fewest))
            self.assertIs(type(clashes(net, wishes)), list)
        self.assertTrue({1, 2, 3} <= sizes)

    def test_without_some_the_others_go_together_if_each_clash_loses_one(self):
        for net, wishes in clashing_tasks(30, 109):
            found = clashes(net, wishes)
            for some in all_sets(len(wishes)):
                rest = tuple(index for index in range(len(wishes)) if index not in some)
                self.assertIs(go_together(net, wishes, rest), all(set(some) & set(clash) for clash in found))

    def test_a_sure_wish_goes_with_all_that_go_together(self):
        for net, wishes in clashing_tasks(30, 110):
            sure = sure_wishes(net, wishes)
            for some in all_sets(len(wishes)):
                if go_together(net, wishes, some):
                    self.assertIs(go_together(net, wishes, tuple(sorted({*some, *sure}))), True)

    def test_eight_wishes_are_let_and_nine_are_not(self):
        for function in (clashes, sure_wishes, given_up):
            function((7, ()), STARS[:8])
            for many in (9, 10):
                self.raises(TooLarge, "what", "wishes", function, (7, ()), STARS[:many])
        self.assertEqual(clashes((7, ()), STARS[:8]), [(index,) for index in range(8)])
        self.assertEqual(given_up((7, ()), STARS[:8]), tuple(range(8)))
        self.assertIs(go_together((7, ()), STARS, tuple(range(10))), False)
        self.assertIs(go_together((7, ()), STARS, ()), True)

    def test_a_list_that_is_changed_changes_no_later_answer(self):
        found = clashes(RING, THREE)
        found.append((9,))
        found[0] = None
        self.assertEqual(clashes(RING, THREE), [(0, 1, 2)])
        self.assertEqual(sure_wishes(RING, THREE), ())

    def test_equal_arguments_give_equal_answers(self):
        for net, wishes in strong_tasks(20, 111):
            again = (net[0], tuple(tuple(list(road)) for road in net[1])), tuple(tuple(list(wish)) for wish in wishes)
            for number in range(len(wishes)):
                self.assertEqual(wish_evidence(net, wishes, number), wish_evidence(*again, number))
            for road in range(len(net[1])):
                self.assertEqual(road_evidence(net, wishes, road), road_evidence(*again, road))
            self.assertEqual(room_tree(net, wishes), room_tree(*again))


class TestClashes(RoomsCase):
    def test_evidence(self):
        many = 0
        for net, wishes in clashing_tasks(80, 112):
            if net[0] > 6 or len(net[1]) > 9:
                continue
            found = all_clashes(net, wishes)
            for indexes in all_sets(len(wishes)):
                if indexes not in found:
                    self.raises(NotPossible, "why", "clash", clash_evidence, net, wishes, indexes)
                    continue
                told = clash_evidence(net, wishes, indexes)
                mine = some_of(wishes, indexes)
                self.assertEqual(told[0], weak_of(net, mine)[0])
                self.assertEqual(len(told[1]), len(mine))
                for index, ways in enumerate(told[1]):
                    self.assertTrue(are_right_ways(net, mine[:index] + mine[index + 1:], ways))
                self.assertIs(accepts_clash(net, wishes, indexes, told), True)
                many += 1
        self.assertGreater(many, 20)

    def test_every_fence_and_every_set(self):
        for net, wishes in clashing_tasks(40, 113):
            if net[0] > 6 or len(net[1]) > 9 or len(wishes) > 5:
                continue
            for indexes in clashes(net, wishes):
                told = clash_evidence(net, wishes, indexes)
                for fence in masks(net[0]):
                    wanted = room_of(net, some_of(wishes, indexes), fence) < 0
                    self.assertIs(accepts_clash(net, wishes, indexes, (fence, told[1])), wanted)
                for others in all_sets(len(wishes)):
                    if accepts_clash(net, wishes, others, told):
                        self.assertIn(others, all_clashes(net, wishes))

    def test_examples(self):
        self.assertIs(accepts_clash(RING, THREE, (0, 1, 2), ((1, 2), ((), (), ()))), False)
        self.assertIs(accepts_clash(RING, ((0, 1, 3), (0, 2, 1)), (0,), ((1,), ((),))), True)

    def test_no_wishes_never_clash(self):
        for fence in masks(4):
            self.assertIs(accepts_clash(RING, THREE, (), (fence, ())), False)
        self.raises(NotPossible, "why", "clash", clash_evidence, RING, THREE, ())

    def test_the_others_are_numbered_anew(self):
        net, wishes = (3, ((0, 1, 1), (1, 2, 1))), ((0, 1, 1), (0, 2, 1), (1, 2, 1))
        rows = (((0, (1, 2), (1, 1)),), ((0, (0, 1, 2), (1, 1)),))
        self.assertIs(accepts_clash(net, wishes, (1, 2), ((2,), rows)), True)
        for index, value in ((0, 1), (0, 2), (1, 1)):
            self.assertIs(accepts_clash(net, wishes, (1, 2), ((2,), put(rows, (index, 0, 0), value))), False)
        self.assertIs(accepts_clash(net, wishes, (1, 2), ((2,), rows[::-1])), False)
        self.assertIs(accepts_clash(net, wishes, (1, 2), ((1,), rows)), False)
        self.assertIs(accepts_clash(net, wishes, (1, 2), ((1, 2), rows)), False)
        self.assertIs(accepts_clash(net, wishes, (0, 1), ((2,), rows)), False)

    def test_wishes_that_are_not_good(self):
        net = (7, ((0, 1, 1), (1, 2, 1), (3, 4, 1), (5, 6, 1)))
        wishes = ((0, 1, 1), (0, 2, 1), (3, 4, 2), (5, 6, 1))
        self.assertIs(good(wishes), False)
        rows = (((0, (0, 1, 2), (1, 1)),), ((0, (0, 1), (1, 1)),))
        self.assertIs(accepts_clash(net, wishes, (0, 1), ((1, 2), rows)), True)
        self.assertIs(accepts_clash(net, wishes, (0, 1), ((1,), rows)), False)
        self.assertIs(accepts_clash(net, wishes, (2,), ((3,), ((),))), True)
        self.assertIs(accepts_clash(net, wishes, (3,), ((5,), ((),))), False)
        self.assertIs(accepts_clash(net, wishes, (2, 3), ((3,), (((0, (5, 6), (1, 1)),), ()))), False)
        for function in (go_together, clash_evidence):
            self.raises(NotPossible, "why", "shape", function, net, wishes, (0, 1))
        for function in (clashes, sure_wishes, given_up):
            self.raises(NotPossible, "why", "shape", function, net, wishes)

    def test_other_forms_and_kinds(self):
        for net, wishes, indexes in ((RING, THREE, (0, 1, 2)), (RING, ((0, 1, 3), (0, 2, 1)), (0,))):
            value = clash_evidence(net, wishes, indexes)
            self.assertIs(accepts_clash(net, wishes, indexes, value), True)
            wrong = [other for other in in_other_forms(value) if form_of(other) != form_of(value)]
            wrong += shortened(value) + doubled(value) + [value[::-1], *ODD_KINDS]
            # The rows of a single wish are a tuple that is of another kind elsewhere.
            wrong += [put(value, (index,), kind) for index in range(2) for kind in ODD_KINDS if kind != ((),)]
            wrong += [put(value, (index, 0), kind) for index in range(2) for kind in ODD_KINDS if kind != ((),)]
            wrong += [put(value, (1,), rows) for rows in shortened(value[1]) + doubled(value[1])]
            wrong += [put(value, (0,), fence) for fence in ((), (0,), (4,), (2, 1), (True,), None)]
            for other in wrong:
                with self.subTest(value=other):
                    self.assertIs(accepts_clash(net, wishes, indexes, other), False)


class TestErrors(RoomsCase):
    def test_the_shape_comes_ahead_of_the_bounds_and_of_the_fence(self):
        seven, bad = (7, ()), ((0, 1, 1), (2, 3, 1), (4, 5, 1))
        for function, arguments in ((wish_room, (0,)), (wish_evidence, (2,)), (clash_evidence, ((0,),)),
                                    (go_together, ((0,),))):
            self.raises(NotPossible, "why", "shape", function, seven, bad, *arguments)
        for function in (clashes, sure_wishes, given_up):
            self.raises(NotPossible, "why", "shape", function, FULL, TEN)
            self.raises(NotPossible, "why", "shape", function, FULL, TEN[1:])
        self.raises(NotPossible, "why", "shape", road_room, FULL, TEN, 0)
        self.raises(NotPossible, "why", "shape", road_evidence, FULL, TEN, 0)

    def test_the_bounds_come_ahead_of_the_fence_and_of_the_clash(self):
        wishes = ((0, 1, 6),)
        nine = tuple((one, other, 1) for one, other in list(combinations(range(6), 2))[:9])
        for net in ((7, ((0, 2, 1),)), (6, nine + ((3, 4, 1),))):
            self.raises(TooLarge, "what", "net", wish_evidence, net, wishes, 0)
            self.raises(TooLarge, "what", "net", road_evidence, net, wishes, 0)
            self.raises(TooLarge, "what", "net", clash_evidence, net, wishes, (0,))
            self.raises(TooLarge, "what", "net", clash_evidence, net, wishes, ())
            self.raises(NotPossible, "why", "fence", wish_room, net, wishes, 0)
            self.raises(NotPossible, "why", "fence", road_room, net, wishes, 0)
            self.assertIs(accepts_wish(net, wishes, 0, None), False)
            self.assertIs(accepts_road(net, wishes, 0, None), False)
            self.assertIs(accepts_clash(net, wishes, (0,), None), False)
        self.raises(NotPossible, "why", "fence", wish_evidence, (6, nine), wishes, 0)
        self.raises(NotPossible, "why", "fence", road_evidence, (6, nine), wishes, 0)
        self.assertEqual(clash_evidence((6, nine), wishes, (0,))[1], ((),))
        self.raises(NotPossible, "why", "clash", clash_evidence, (6, nine), wishes, ())

    def test_some_fence_is_too_weak(self):
        for net, wishes in good_tasks(120, 114):
            if weak_of(net, wishes):
                self.raises(NotPossible, "why", "fence", wish_room, net, wishes, 0)
                self.raises(NotPossible, "why", "fence", wish_evidence, net, wishes, 0)
                if net[1]:
                    self.raises(NotPossible, "why", "fence", road_room, net, wishes, 0)
                    self.raises(NotPossible, "why", "fence", road_evidence, net, wishes, 0)
                room_between(net, wishes, 0, 1)
                room_tree(net, wishes)

    def test_indexes_of_nothing(self):
        self.raises(BadValue, "name", "number", wish_room, RING, (), 0)
        self.raises(BadValue, "name", "number", wish_evidence, RING, (), 0)
        self.raises(BadValue, "name", "number", accepts_wish, RING, (), 0, None)
        self.raises(BadValue, "name", "road", road_room, (2, ()), (), 0)
        self.raises(BadValue, "name", "road", road_evidence, (2, ()), (), 0)
        self.raises(BadValue, "name", "road", accepts_road, (2, ()), (), 0, None)
        self.raises(BadValue, "name", "indexes", go_together, RING, (), (0,))
        self.assertIs(go_together(RING, (), ()), True)

    def test_wrong_arguments_come_ahead_of_all_others(self):
        seven, bad = (7, ()), ((0, 1, 1), (2, 3, 1), (4, 5, 1))
        for function, wrong, name in ((wish_room, 3, "number"), (wish_evidence, -1, "number"), (road_room, 0, "road"),
                                      (road_evidence, 0, "road"), (go_together, (3,), "indexes"),
                                      (clash_evidence, (1, 0), "indexes")):
            self.raises(BadValue, "name", name, function, seven, bad, wrong)
            self.raises(BadValue, "name", "wishes", function, seven, bad[::-1], wrong)
            self.raises(BadValue, "name", "net", function, (8, ()), bad[::-1], wrong)
        for arguments, name in (((0, 7), "other"), ((7, 8), "one"), ((1, 1), "other"), ((1, 0), "other")):
            self.raises(BadValue, "name", name, room_for, seven, bad, *arguments)
            self.raises(BadValue, "name", name, room_between, seven, bad, *arguments)


if __name__ == "__main__":
    unittest.main()
