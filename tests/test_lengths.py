"""Points 82 to 92: worth, need, lengths of fences, rises from points, and evidence about all wishes."""

import random
import unittest
from itertools import combinations

from changes import doubled, form_of, in_other_forms, places, put, shortened, shuffled
from judges import are_right_ways, distances, is_right_rise, needed, rises_from, some_rise, worth_by
from samples import ACROSS, BARE, FULL, ODD_KINDS, PAIR, RING, ROW, TEN, TWO_PARTS, crosses, masks, met_tasks, tasks
from small import (FIVE, TRIANGLE, UNLIKE, against_tasks, good_tasks, other_tasks, renamed_links, room_of,
                   weak_of)
from wishshapes.errors import TooLarge
from wishshapes.lengths import accepts_evidence, can_be_met, lengths_of, need, rise_from, told_evidence, worth
from wishshapes.nets import load, width
from wishshapes.shapes import is_enough

ONES = (1, 1, 1, 1, 1, 1)
RISES = ((0, 2, 2, 1, 1), (0, 2, 2, 1, 1), (2, 0, 2, 1, 1), (1, 1, 1, 0, 2))
NEAR = (4, ((0, 1, 2), (1, 2, 3)))


def some_lengths(net, chance, most=4):
    """Return lengths of the net."""
    return tuple(chance.randint(0, most) for _ in net[1])


class TestWorthAndNeed(unittest.TestCase):
    def test_examples(self):
        self.assertEqual((worth(FIVE, ONES), need(FIVE, TRIANGLE, ONES, RISES)), (6, 8))
        self.assertEqual((worth(BARE, ()), need(BARE, (), (), ()), worth(PAIR, (5,)), worth(PAIR, (0,))), (0, 0, 15, 0))
        self.assertEqual(need(PAIR, ((0, 1, 4),), (2,), ((5, 7),)), 8)
        self.assertEqual(need(PAIR, ((0, 1, 4),), (2,), ((0, -2),)), -8)
        self.assertEqual(need(BARE, ((0, 1, 6),), (), ((-3, 4),)), 42)

    def test_sums(self):
        chance = random.Random(30)
        for net, wishes in tasks():
            lengths = some_lengths(net, chance)
            rises = tuple(some_rise(net, lengths, chance) for _ in wishes)
            self.assertEqual(worth(net, lengths), worth_by(net, lengths))
            self.assertEqual(need(net, wishes, lengths, rises), needed(wishes, rises))

    def test_great_numbers(self):
        large = 10 ** 40
        self.assertEqual(worth(ROW, (large, 2)), 6 * large + 10)
        self.assertEqual(need(ROW, ((0, 2, 2),), (large, 2), ((-large, 0, 2),)), 2 * large + 4)


class TestLengthsOfFences(unittest.TestCase):
    def test_example(self):
        wanted = ((1, 0, 0, 1, 1, 0), ((0, 1, 0, 1, 0), (0, 0, 0, 0, 0), (1, 0, 1, 0, 1), (1, 0, 1, 0, 1)))
        self.assertEqual(lengths_of(FIVE, TRIANGLE, (1, 3)), wanted)
        self.assertEqual(lengths_of(BARE, (), (1,)), ((), ()))
        self.assertEqual(lengths_of(BARE, ((0, 1, 2),), (1,)), ((), ((0, 1),)))

    def test_as_point_87_says(self):
        for net, wishes in tasks():
            for fence in masks(net[0]):
                lengths, rises = lengths_of(net, wishes, fence)
                self.assertEqual(lengths, tuple(int(crosses(road, fence)) for road in net[1]))
                for wish, rise in zip(wishes, rises):
                    if not crosses(wish, fence):
                        wanted = [0] * net[0]
                    elif wish[1] in fence:
                        wanted = [int(point in fence) for point in range(net[0])]
                    else:
                        wanted = [int(point not in fence) for point in range(net[0])]
                    self.assertEqual(rise, tuple(wanted))
                self.assertEqual([type(part) for part in (lengths, rises)], [tuple, tuple])
                self.assertEqual(len(rises), len(wishes))

    def test_worth_is_width_and_need_is_load(self):
        for net, wishes in tasks():
            for fence in masks(net[0]):
                lengths, rises = lengths_of(net, wishes, fence)
                self.assertEqual(worth(net, lengths), width(net, fence))
                self.assertEqual(need(net, wishes, lengths, rises), load(net, wishes, fence))
                accepted = accepts_evidence(net, wishes, ("lengths", lengths, rises))
                self.assertIs(accepted, room_of(net, wishes, fence) < 0)


class TestRiseFrom(unittest.TestCase):
    def test_examples(self):
        found = tuple(rise_from(FIVE, ONES, wish[0]) for wish in TRIANGLE)
        self.assertEqual(found, RISES)
        self.assertEqual(rise_from(ROW, (3, 4), 2), (7, 4, 0))
        self.assertEqual(rise_from(RING, (1, 9, 1, 1), 0), (0, 1, 2, 3))

    def test_points_that_do_not_hang_together_with_it(self):
        self.assertEqual(rise_from(NEAR, (2, 3), 0), (0, 2, 5, 0))
        self.assertEqual(rise_from(NEAR, (2, 3), 3), (0, 0, 0, 0))
        self.assertEqual(rise_from((7, ()), (), 4), (0,) * 7)
        self.assertEqual(rise_from(TWO_PARTS, (1, 2, 3, 4, 5), 3), (1, 0, 0, 0, 9, 4, 0))

    def test_roads_of_the_length_0(self):
        self.assertEqual(rise_from(RING, (0, 5, 0, 2), 0), (0, 0, 0, 2))
        self.assertEqual(rise_from(RING, (0, 0, 0, 0), 2), (0, 0, 0, 0))

    def test_least_sums(self):
        chance = random.Random(31)
        for net, _ in tasks():
            for _ in range(3):
                lengths = some_lengths(net, chance)
                table = distances(net, lengths)
                for point in range(net[0]):
                    found = rise_from(net, lengths, point)
                    self.assertEqual(found, tuple(table[point, other] or 0 for other in range(net[0])))
                    self.assertTrue(is_right_rise(net, lengths, found))

    def test_no_rise_grows_by_more(self):
        chance = random.Random(32)
        for net, _ in tasks():
            lengths = some_lengths(net, chance)
            table, rise = distances(net, lengths), some_rise(net, lengths, chance)
            self.assertTrue(is_right_rise(net, lengths, rise))
            for point in range(net[0]):
                most = rise_from(net, lengths, point)
                for other in range(net[0]):
                    if table[point, other] is not None:
                        self.assertLessEqual(rise[other] - rise[point], most[other])

    def test_a_path_along_all_points(self):
        roads = tuple((one, one + 1, 1) for one in range(6))
        self.assertEqual(rise_from((7, roads), (1, 2, 3, 4, 5, 6), 6), (21, 20, 18, 15, 11, 6, 0))
        self.assertEqual(rise_from((7, roads), (1, 2, 3, 4, 5, 6), 0), (0, 1, 3, 6, 10, 15, 21))


class TestTold(unittest.TestCase):
    def check(self, net, wishes):
        """Tell the word of the told evidence, which must be right and accepted."""
        found = told_evidence(net, wishes)
        self.assertIs(type(found), tuple)
        self.assertIs(accepts_evidence(net, wishes, found), True)
        self.assertIs(can_be_met(net, wishes), found[0] == "ways")
        weak = weak_of(net, wishes)
        self.assertEqual(found[0] == "fence", bool(weak))
        if weak:
            self.assertEqual(found, ("fence", weak[0]))
        elif found[0] == "ways":
            self.assertTrue(are_right_ways(net, wishes, found[1]))
        else:
            word, lengths, rises = found
            self.assertEqual((word, len(lengths), len(rises)), ("lengths", len(net[1]), len(wishes)))
            self.assertTrue(all(type(length) is int and length >= 0 for length in lengths))
            self.assertTrue(all(is_right_rise(net, lengths, rise) for rise in rises))
            self.assertGreater(needed(wishes, rises), worth_by(net, lengths))
        return found[0]

    def test_examples(self):
        self.assertEqual((can_be_met(FIVE, TRIANGLE), can_be_met(FIVE, TRIANGLE[:3])), (False, True))
        self.assertEqual((told_evidence(FIVE, ()), told_evidence(FIVE, ((0, 1, 3),))), (("ways", ()), ("fence", (1,))))
        self.assertEqual((told_evidence(BARE, ()), told_evidence((6, ()), ())), (("ways", ()), ("ways", ())))

    def test_point_92(self):
        self.assertEqual(weak_of(FIVE, TRIANGLE), [])
        self.assertEqual(self.check(FIVE, TRIANGLE), "lengths")
        self.assertIs(accepts_evidence(FIVE, TRIANGLE, ("lengths", ONES, RISES)), True)
        self.assertEqual(self.check(FIVE, TRIANGLE[:3]), "ways")

    def test_good_wishes(self):
        words = [self.check(net, wishes) for net, wishes in good_tasks(100, 33) if len(wishes) <= 5]
        self.assertEqual(sorted(set(words)), ["fence", "ways"])

    def test_other_wishes(self):
        words = [self.check(net, wishes) for net, wishes in other_tasks(150, 34)]
        self.assertEqual(sorted(set(words)), ["fence", "lengths", "ways"])
        wrong = [wishes for _, wishes in other_tasks(150, 34) if not is_enough(tuple(wish[:2] for wish in wishes))]
        self.assertTrue(words.count("lengths") > 10 and len(wrong) > words.count("lengths") + 10)

    def test_not_met_although_no_fence_is_too_weak(self):
        for net, wishes in against_tasks():
            self.assertEqual(self.check(net, wishes), "lengths")
        for net, wishes in UNLIKE:
            ones = (1,) * len(net[1])
            self.assertLessEqual(needed(wishes, rises_from(net, wishes, ones)), worth_by(net, ones))
            self.assertGreater(len(set(told_evidence(net, wishes)[1])), 1)

    def test_renamed_points(self):
        chance = random.Random(42)
        for net, wishes in against_tasks() * 3:
            order = chance.sample(range(net[0]), net[0])
            renamed = (net[0], renamed_links(net[1], order)), renamed_links(wishes, order)
            self.assertEqual(self.check(*renamed), "lengths")

    def test_wider_roads_until_they_are_met(self):
        wider = put(FIVE, (1, 0, 2), 2)
        self.assertEqual(self.check(wider, TRIANGLE), "lengths")
        both = put(wider, (1, 1, 2), 2)
        self.assertIn(self.check(both, TRIANGLE), ("ways", "lengths"))
        self.assertEqual(self.check((5, tuple((one, two, 2) for one, two, _ in FIVE[1])), TRIANGLE), "ways")


class TestBounds(unittest.TestCase):
    def raises(self, net, wishes):
        for function in (can_be_met, told_evidence):
            with self.assertRaises(TooLarge) as caught:
                function(net, wishes)
            self.assertEqual(caught.exception.what, "net")

    def test_points(self):
        self.assertIs(can_be_met((6, ()), ()), True)
        self.raises((7, ()), ())
        self.raises((7, ()), ((0, 1, 1),))

    def test_roads(self):
        nine = tuple((one, other, 1) for one, other in list(combinations(range(6), 2))[:9])
        self.assertIs(can_be_met((6, nine), ((0, 1, 1),)), True)
        self.raises((6, nine + ((2, 3, 1),)), ((0, 1, 1),))
        self.raises((5, tuple((one, other, 1) for one, other in combinations(range(5), 2))), ())

    def test_wishes(self):
        five = tuple((0, other, 1) for other in range(1, 6))
        star = (6, tuple((0, other, 2) for other in range(1, 6)))
        self.assertIs(can_be_met(star, five), True)
        self.raises(star, five + ((1, 2, 1),))
        self.raises((6, ()), five + ((1, 2, 1),))

    def test_the_judge_takes_every_net_and_all_wishes(self):
        self.assertIs(accepts_evidence((7, ()), (), ("ways", ())), True)
        self.assertIs(accepts_evidence(FULL, TEN, ("ways", ())), False)
        self.assertIs(accepts_evidence(FULL, TEN, ("lengths", (1,) * 15, ((0,) * 7,) * 10)), False)
        self.assertIs(accepts_evidence((7, ()), ((5, 6, 1),), ("lengths", (), ((0, 0, 0, 0, 0, 0, 1),))), True)
        self.assertIs(accepts_evidence((7, ()), ((5, 6, 1),), ("lengths", (), ((0, 0, 0, 0, 0, 0, 0),))), False)


class TestAccepted(unittest.TestCase):
    def accepted(self, value, wanted, net=FIVE, wishes=TRIANGLE):
        with self.subTest(value=value):
            self.assertIs(accepts_evidence(net, wishes, value), wanted)

    def test_need_and_worth(self):
        self.accepted(("lengths", ONES, RISES), True)
        self.accepted(("lengths", ONES, RISES[:3]), False)
        self.accepted(("lengths", ONES, RISES[:3]), False, FIVE, TRIANGLE[:3])
        wider = put(put(FIVE, (1, 0, 2), 2), (1, 3, 2), 2)
        self.accepted(("lengths", ONES, RISES), False, wider)
        self.accepted(("lengths", ONES, RISES), True, put(FIVE, (1, 0, 2), 2))
        flat = RISES[:3] + ((1, 1, 1, 0, 0),)
        self.accepted(("lengths", ONES, flat), False)
        self.accepted(("lengths", ONES, RISES[:3] + ((1, 1, 1, 0, 1),)), True)

    def test_rises_with_numbers_less_than_0(self):
        lower = tuple(tuple(number - 7 for number in rise) for rise in RISES)
        self.accepted(("lengths", ONES, lower), True)
        self.accepted(("lengths", (-1, *ONES[1:]), RISES), False)
        turned = tuple(tuple(-number for number in rise) for rise in RISES)
        self.accepted(("lengths", ONES, turned), False)

    def test_lengths_and_rises_by_the_definition(self):
        chance = random.Random(36)
        right = 0
        for net, wishes in tasks(40, 37) + other_tasks(60, 38) + against_tasks():
            for _ in range(6):
                lengths = some_lengths(net, chance, 2)
                rises = list(rises_from(net, wishes, lengths))
                if rises and chance.random() < 0.5:
                    place = chance.randrange(len(rises))
                    rises[place] = put(rises[place], (chance.randrange(net[0]),), chance.randint(-2, 4))
                wanted = all(is_right_rise(net, lengths, rise) for rise in rises)
                wanted = wanted and needed(wishes, rises) > worth_by(net, lengths)
                self.accepted(("lengths", lengths, tuple(rises)), wanted, net, wishes)
                right += wanted
        self.assertGreater(right, 20)

    def test_no_other_word_where_ways_meet_the_wishes(self):
        chance = random.Random(39)
        for net, wishes, ways in met_tasks():
            value = tuple((index, path, (amount, 1)) for index, path, amount in ways)
            self.accepted(("ways", value), True, net, wishes)
            for fence in masks(net[0]):
                self.accepted(("fence", fence), False, net, wishes)
                self.accepted(("lengths", *lengths_of(net, wishes, fence)), False, net, wishes)
            for _ in range(5):
                lengths = some_lengths(net, chance)
                self.accepted(("lengths", lengths, rises_from(net, wishes, lengths)), False, net, wishes)

    def test_good_wishes_without_a_weak_fence_have_no_lengths(self):
        chance = random.Random(40)
        for net, wishes in good_tasks(60, 41):
            if not weak_of(net, wishes):
                for _ in range(5):
                    lengths = some_lengths(net, chance)
                    self.accepted(("lengths", lengths, rises_from(net, wishes, lengths)), False, net, wishes)

    def test_sums_and_multiples(self):
        for net, wishes in against_tasks() + [(PAIR, ((0, 1, 4),)), (RING, ((0, 2, 2), (1, 3, 1)))]:
            found = [told_evidence(net, wishes)[1:]] if not weak_of(net, wishes) else []
            found += [lengths_of(net, wishes, fence) for fence in weak_of(net, wishes)]
            for lengths, rises in found:
                for factor in (1, 2, 7, 10 ** 30):
                    longer = tuple(length * factor for length in lengths)
                    higher = tuple(tuple(number * factor for number in rise) for rise in rises)
                    self.accepted(("lengths", longer, higher), True, net, wishes)
                for more, others in found:
                    summed = tuple(sum(pair) for pair in zip(lengths, more))
                    both = tuple(tuple(sum(pair) for pair in zip(*rows)) for rows in zip(rises, others))
                    self.accepted(("lengths", summed, both), True, net, wishes)

    def test_one_number_changed(self):
        value = ("lengths", ONES, RISES)
        for place in places(value)[1:]:
            if type(place[-1]) is int and len(place) in (2, 3) and place[0] > 0:
                for step in (-1, 1):
                    if len(place) == 2 and place[0] == 2:
                        continue
                    old = value[place[0]][place[1]] if len(place) == 2 else value[2][place[1]][place[2]]
                    after = put(value, place, old + step)
                    wanted = min(after[1]) >= 0 and all(is_right_rise(FIVE, after[1], rise) for rise in after[2])
                    wanted = wanted and needed(TRIANGLE, after[2]) > worth_by(FIVE, after[1])
                    self.accepted(after, wanted)

    def test_fences_and_ways(self):
        self.accepted(("fence", (1, 2)), True, RING, ((0, 2, 2), (1, 3, 1)))
        self.accepted(("fence", (1, 2)), False, RING, ACROSS)
        self.accepted(("fence", (1,)), True, FIVE, ((0, 1, 3),))
        for wrong in ((), (0,), (0, 1), (5,), (2, 1), (1, 1), [1], (True,), 1, None, (0, 1, 2, 3, 4)):
            self.accepted(("fence", wrong), False, FIVE, ((0, 1, 6),))
        for fence in masks(5):
            self.accepted(("fence", fence), False)
        self.accepted(("ways", ((0, (0, 3, 1), (1, 1)),)), True, FIVE, TRIANGLE[:1])
        self.accepted(("ways", ((0, (0, 3, 1), (1, 2)), (0, (0, 4, 1), (1, 2)))), True, FIVE, TRIANGLE[:1])
        self.accepted(("ways", ((0, (0, 3, 1), (1, 2)),)), False, FIVE, TRIANGLE[:1])
        self.accepted(("ways", ((-1, (0, 3, 1), (1, 1)),)), False, FIVE, TRIANGLE[:1])

    def test_other_forms_and_kinds(self):
        ways = ("ways", ((0, (0, 3, 1), (1, 1)),))
        lengths, fence = ("lengths", ONES, RISES), ("fence", (1,))
        for value, wishes in ((lengths, TRIANGLE), (ways, TRIANGLE[:1]), (fence, ((0, 1, 3),)), (("ways", ()), ())):
            self.accepted(value, True, FIVE, wishes)
            wrong = [other for other in in_other_forms(value) if form_of(other) != form_of(value)]
            wrong += shortened(value) + doubled(value) + shuffled(value) + [*ODD_KINDS]
            wrong += [(*value[:-1], kind) for kind in ODD_KINDS] + [(value[0], kind, value[-1]) for kind in ODD_KINDS]
            wrong += [(kind, *value[1:]) for kind in ODD_KINDS]
            wrong += [(word, *value[1:]) for word in ("length", "way", "fences", "share", "", None)]
            for other in wrong:
                self.accepted(other, False, FIVE, wishes)
        for kind in ODD_KINDS:
            self.accepted(("lengths", ONES, (*RISES[:3], kind)), False)
            self.accepted(("lengths", (*ONES[:5], kind), ((0, 0, 0, 0, 0),) * 4), False)

    def test_words_for_other_parts(self):
        self.accepted(("ways", ONES, RISES), False)
        self.accepted(("lengths", (ONES, RISES)), False)
        self.accepted(("lengths", RISES), False)
        self.accepted(("lengths", ONES, RISES, ()), False)
        self.accepted(("lengths", RISES, ONES), False)


if __name__ == "__main__":
    unittest.main()
