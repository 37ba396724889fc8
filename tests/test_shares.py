"""Points 104 to 113: the greatest share of all wishes, evidence about it, and the least quotient of fences."""

import random
import unittest
from fractions import Fraction
from itertools import combinations

from changes import doubled, form_of, in_other_forms, put, shortened, shuffled
from judges import (are_right_ways, as_fraction, distances, is_right_rise, needed, rises_from, with_road,
                    worth_by)
from samples import FULL, ODD_KINDS, RING, TEN, TWO_PARTS, masks, sum_across, tasks
from small import FIVE, TRIANGLE, against_tasks, doubled_links, good_tasks, other_tasks, some_net
from wishshapes.errors import BadValue, NotPossible, TooLarge
from wishshapes.lengths import accepts_evidence, can_be_met, lengths_of
from wishshapes.shapes import is_enough
from wishshapes.shares import accepts_share, greatest_share, least_quotient, share_evidence

ONES = (1, 1, 1, 1, 1, 1)
RISES = ((0, 2, 2, 1, 1), (0, 2, 2, 1, 1), (2, 0, 2, 1, 1), (1, 1, 1, 0, 2))
# The ways of point 112: the wish between 3 and 4 by each of the three points, each other one by 3 and by 4.
WAYS = tuple((index, (one, between, other), (3, 8)) for index, (one, other) in enumerate(((0, 1), (0, 2), (1, 2)))
             for between in (3, 4)) + tuple((3, (3, between, 4), (1, 4)) for between in (0, 1, 2))
TOLD = ("share", (3, 4), WAYS, ONES, RISES)
PATH = (3, ((0, 1, 2),))
TWICE = ("share", (2, 1), ((0, (0, 1), (2, 1)),), (1,), ((0, 1, 0),))


def share_tasks(many=120, seed=80):
    """Return pairs of a net of up to 6 points and 9 roads and 1 to 5 wishes of every kind."""
    chance = random.Random(seed)
    found = [(FIVE, TRIANGLE), (PATH, ((0, 1, 1), (0, 2, 1))), (PATH, ((0, 1, 1),)), ((2, ()), ((0, 1, 6),))]
    found += against_tasks()
    found += [(net, wishes[:5]) for net, wishes in other_tasks(40, seed + 1) + good_tasks(40, seed + 2) if wishes]
    while len(found) < many:
        points = chance.randint(2, 6)
        pairs = list(combinations(range(points), 2))
        net = some_net(points, chance)
        if chance.random() < 0.3:
            net = (points, net[1][::2])
        chosen = chance.sample(pairs, chance.randint(1, min(5, len(pairs))))
        found.append((net, tuple((*pair, chance.randint(1, 6)) for pair in sorted(chosen))))
    return found


def as_pair(number):
    """Return the fraction that stands for the number."""
    return Fraction(number).numerator, Fraction(number).denominator


def is_right_share(net, wishes, value):
    """Tell whether the value, whose form is right, is evidence about the greatest share."""
    word, share, ways, lengths, rises = value
    if word != "share" or as_pair(as_fraction(share)) != share:
        return False
    if not are_right_ways(net, wishes, ways, as_fraction(share)):
        return False
    if min(lengths, default=0) < 0 or not all(is_right_rise(net, lengths, rise) for rise in rises):
        return False
    need = needed(wishes, rises)
    return need > 0 and worth_by(net, lengths) == as_fraction(share) * need


def quotients(net, wishes):
    """Return the triples of the quotient of width and load and the fence, for all fences with a load."""
    return [(Fraction(sum_across(net[1], fence), sum_across(wishes, fence)), fence) for fence in masks(net[0])
            if sum_across(wishes, fence) > 0]


class TestGreatestShare(unittest.TestCase):
    def test_examples(self):
        self.assertEqual((greatest_share(FIVE, TRIANGLE), greatest_share(FIVE, TRIANGLE[3:])), ((3, 4), (3, 1)))
        self.assertEqual(greatest_share(PATH, ((0, 1, 1), (0, 2, 1))), (0, 1))
        self.assertEqual(greatest_share(PATH, ((0, 1, 1),)), (2, 1))
        self.assertEqual(greatest_share((2, ()), ((0, 1, 6),)), (0, 1))

    def test_point_112(self):
        self.assertEqual(least_quotient(FIVE, TRIANGLE)[0], (1, 1))
        self.assertTrue(is_right_share(FIVE, TRIANGLE, TOLD))
        self.assertIs(accepts_share(FIVE, TRIANGLE, TOLD), True)
        self.assertTrue(are_right_ways(FIVE, TRIANGLE, WAYS, Fraction(3, 4)))

    def test_the_share_and_its_evidence(self):
        words = {"none": 0, "less": 0, "one": 0, "more": 0}
        for net, wishes in share_tasks():
            found = share_evidence(net, wishes)
            self.assertEqual(found[1], greatest_share(net, wishes))
            self.assertEqual((len(found[3]), len(found[4])), (len(net[1]), len(wishes)))
            self.assertTrue(is_right_share(net, wishes, found), (net, wishes, found))
            self.assertIs(accepts_share(net, wishes, found), True)
            share = as_fraction(found[1])
            words["none" if share == 0 else "less" if share < 1 else "one" if share == 1 else "more"] += 1
        self.assertTrue(min(words.values()) >= 5, words)

    def test_no_lengths_have_a_smaller_quotient(self):
        chance = random.Random(83)
        for net, wishes in share_tasks(60, 84):
            share = as_fraction(greatest_share(net, wishes))
            for _ in range(5):
                lengths = tuple(chance.randint(0, 3) for _ in net[1])
                rises = rises_from(net, wishes, lengths)
                if needed(wishes, rises) > 0:
                    self.assertGreaterEqual(Fraction(worth_by(net, lengths), needed(wishes, rises)), share)

    def test_met_if_and_only_if_it_is_1_or_more(self):
        for net, wishes in share_tasks():
            self.assertIs(can_be_met(net, wishes), as_fraction(greatest_share(net, wishes)) >= 1)

    def test_0_if_and_only_if_a_wish_has_no_path(self):
        for net, wishes in share_tasks():
            table = distances(net, [1] * len(net[1]))
            missing = any(table[one, other] is None for one, other, _ in wishes)
            self.assertIs(greatest_share(net, wishes) == (0, 1), missing)

    def test_wider_roads_and_smaller_wishes(self):
        for net, wishes in share_tasks(50, 85):
            share = as_fraction(greatest_share(net, wishes))
            for index, road in enumerate(net[1]):
                if road[2] < 6:
                    wider = put(net, (1, index, 2), road[2] + 1)
                    self.assertGreaterEqual(as_fraction(greatest_share(wider, wishes)), share)
            for index, wish in enumerate(wishes):
                if wish[2] > 1:
                    less = put(wishes, (index, 2), wish[2] - 1)
                    self.assertGreaterEqual(as_fraction(greatest_share(net, less)), share)

    def test_more_roads(self):
        for net, wishes in share_tasks(50, 93):
            share = as_fraction(greatest_share(net, wishes))
            joined = [road[:2] for road in net[1]]
            for one, other in combinations(range(net[0]), 2):
                if (one, other) not in joined and len(joined) < 9:
                    self.assertGreaterEqual(as_fraction(greatest_share(with_road(net, one, other), wishes)), share)

    def test_some_of_the_wishes(self):
        for net, wishes in share_tasks(50, 86):
            share = as_fraction(greatest_share(net, wishes))
            for fewer in shortened(wishes):
                if fewer:
                    self.assertGreaterEqual(as_fraction(greatest_share(net, fewer)), share)

    def test_multiplied_amounts_and_widths(self):
        many = 0
        for net, wishes in share_tasks():
            share = as_fraction(greatest_share(net, wishes))
            if max(wish[2] for wish in wishes) <= 3:
                self.assertEqual(greatest_share(net, doubled_links(wishes)), as_pair(share / 2))
                many += 1
            if max((road[2] for road in net[1]), default=0) <= 3:
                self.assertEqual(greatest_share((net[0], doubled_links(net[1])), wishes), as_pair(share * 2))
                many += 1
        self.assertGreater(many, 40)

    def test_point_113(self):
        less = more = 0
        for net, wishes in share_tasks():
            _, share, ways, lengths, rises = share_evidence(net, wishes)
            if as_fraction(share) >= 1:
                whole = tuple((index, path, as_pair(as_fraction(amount) / as_fraction(share)))
                              for index, path, amount in ways)
                self.assertIs(accepts_evidence(net, wishes, ("ways", whole)), True)
                more += 1
            else:
                self.assertIs(accepts_evidence(net, wishes, ("lengths", lengths, rises)), True)
                less += 1
        self.assertTrue(less > 10 and more > 10)


class TestLeastQuotient(unittest.TestCase):
    def test_examples(self):
        self.assertEqual(least_quotient(FIVE, TRIANGLE), ((1, 1), (1,)))
        self.assertEqual(least_quotient(PATH, ((0, 1, 1), (0, 2, 1))), ((0, 1), (2,)))
        self.assertEqual(least_quotient((2, ()), ((0, 1, 4),)), ((0, 1), (1,)))
        self.assertEqual(least_quotient((2, ((0, 1, 6),)), ((0, 1, 4),)), ((3, 2), (1,)))

    def test_all_fences_gone_through(self):
        several = 0
        for net, wishes in share_tasks() + [task for task in tasks(80, 87) if task[1]]:
            rows = quotients(net, wishes)
            least = min(rows)[0]
            told = [fence for quotient, fence in rows if quotient == least]
            self.assertEqual(least_quotient(net, wishes), (as_pair(least), told[0]))
            several += len(told) > 1
        self.assertGreater(several, 10)

    def test_never_less_than_the_share_and_the_same_for_good_wishes(self):
        less = 0
        for net, wishes in share_tasks():
            share, quotient = as_fraction(greatest_share(net, wishes)), as_fraction(least_quotient(net, wishes)[0])
            self.assertLessEqual(share, quotient)
            if is_enough(tuple(wish[:2] for wish in wishes)):
                self.assertEqual(share, quotient)
            less += share < quotient
        self.assertGreater(less, 10)

    def test_good_wishes(self):
        for net, wishes in good_tasks(100, 88):
            if 0 < len(wishes) <= 5:
                self.assertEqual(greatest_share(net, wishes), least_quotient(net, wishes)[0])


class TestErrors(unittest.TestCase):
    def raises(self, kind, attribute, word, function, *arguments):
        with self.subTest(function=function.__name__, arguments=arguments):
            with self.assertRaises(kind) as caught:
                function(*arguments)
            self.assertEqual(getattr(caught.exception, attribute), word)

    def test_no_wish(self):
        for net in (RING, (2, ()), FULL, (7, ())):
            for function in (greatest_share, share_evidence, least_quotient):
                self.raises(NotPossible, "why", "wishes", function, net, ())
            for value in (None, TWICE, ()):
                self.raises(NotPossible, "why", "wishes", accepts_share, net, (), value)

    def test_too_large(self):
        nine = tuple((one, other, 1) for one, other in list(combinations(range(6), 2))[:9])
        five = tuple((0, other, 1) for other in range(1, 6))
        self.assertEqual(greatest_share((6, nine), five)[1] > 0, True)
        for net, wishes in (((7, ()), five), ((6, nine + ((2, 3, 1),)), five), ((6, nine), five + ((1, 2, 1),)),
                            (FULL, TEN), (TWO_PARTS, ((0, 1, 1),))):
            for function in (greatest_share, share_evidence):
                self.raises(TooLarge, "what", "net", function, net, wishes)
            self.assertIs(accepts_share(net, wishes, None), False)
            least_quotient(net, wishes)

    def test_wrong_arguments_come_first(self):
        for function in (greatest_share, share_evidence, least_quotient):
            self.raises(BadValue, "name", "net", function, (7, []), ())
            self.raises(BadValue, "name", "net", function, (1, ()), None)
            self.raises(BadValue, "name", "wishes", function, (7, ()), [])
            self.raises(BadValue, "name", "wishes", function, (7, ()), ((0, 7, 1),))
        self.raises(BadValue, "name", "net", accepts_share, (7, []), (), None)
        self.raises(BadValue, "name", "wishes", accepts_share, RING, [], None)


class TestAccepted(unittest.TestCase):
    def accepted(self, value, wanted, net=FIVE, wishes=TRIANGLE):
        with self.subTest(value=value):
            self.assertIs(accepts_share(net, wishes, value), wanted)

    def test_example(self):
        self.accepted(TWICE, True, PATH, ((0, 1, 1),))
        self.accepted(TOLD, True)

    def test_only_the_greatest_share(self):
        for upper, lower in ((1, 2), (3, 5), (1, 1), (5, 4), (0, 1), (3, 8)):
            factor = Fraction(upper, lower) / Fraction(3, 4)
            ways = tuple((index, path, as_pair(as_fraction(amount) * factor)) for index, path, amount in WAYS)
            self.accepted(("share", (upper, lower), ways if upper else (), ONES, RISES), False)
        half = ("share", (1, 1), ((0, (0, 1), (1, 1)),), (1,), ((0, 1, 0),))
        self.accepted(half, False, PATH, ((0, 1, 1),))
        self.accepted(("share", (3, 1), ((0, (0, 1), (3, 1)),), (1,), ((0, 1, 0),)), False, PATH, ((0, 1, 1),))
        self.accepted(("share", (0, 1), (), (1,), ((0, 1, 0),)), False, PATH, ((0, 1, 1),))
        self.accepted(("share", (0, 1), (), (0,), ((0, 0, 0),)), False, PATH, ((0, 1, 1),))

    def test_smaller_shares_of_drawn_tasks(self):
        for net, wishes in share_tasks(60, 89):
            word, share, ways, lengths, rises = share_evidence(net, wishes)
            if share[0] > 0:
                less = tuple((index, path, as_pair(as_fraction(amount) / 2)) for index, path, amount in ways)
                self.accepted((word, as_pair(as_fraction(share) / 2), less, lengths, rises), False, net, wishes)
                for fence in masks(net[0]):
                    told = lengths_of(net, wishes, fence)
                    wanted = is_right_share(net, wishes, (word, share, ways, *told))
                    self.accepted((word, share, ways, *told), wanted, net, wishes)

    def test_share_0(self):
        net, wishes = PATH, ((0, 1, 1), (0, 2, 1))
        right = ("share", (0, 1), (), (0,), ((0, 0, 0), (0, 0, 1)))
        self.accepted(right, True, net, wishes)
        self.accepted(put(right, (4, 0), (5, 5, -3)), True, net, wishes)
        self.accepted(put(right, (4, 1), (0, 0, 0)), False, net, wishes)
        self.accepted(put(right, (4, 1), (0, 0, -1)), False, net, wishes)
        self.accepted(put(right, (4, 1), (0, 1, 1)), False, net, wishes)
        self.accepted(put(right, (3,), (1,)), False, net, wishes)
        self.accepted(put(right, (2,), ((0, (0, 1), (1, 1)),)), False, net, wishes)
        self.accepted(put(right, (2,), ((0, (0, 1), (0, 1)),)), False, net, wishes)
        for share in ((0, 2), (0, 0), (0, -1), 0, (False, 1), (1, 1)):
            self.accepted(put(right, (1,), share), False, net, wishes)
        bare = ("share", (0, 1), (), (), ((-4, 7),))
        self.accepted(bare, True, (2, ()), ((0, 1, 6),))
        self.accepted(put(bare, (4,), ((7, -4),)), False, (2, ()), ((0, 1, 6),))

    def test_shares_that_are_no_fractions(self):
        for share in ((6, 8), (-3, -4), (-3, 4), (3, 0), (3,), (3, 4, 1), [3, 4], 0.75, "3/4", Fraction(3, 4), (3.0, 4),
                      (3, 4.0), None, (True, 4), ((3, 4),)):
            self.accepted(put(TOLD, (1,), share), False)

    def test_lengths_and_rises(self):
        self.accepted(put(put(TOLD, (3,), (2,) * 6), (4,), tuple(tuple(2 * n for n in rise) for rise in RISES)), True)
        self.accepted(put(TOLD, (3,), (2,) * 6), False)
        self.accepted(put(TOLD, (3, 0), 2), False)
        self.accepted(put(TOLD, (4, 0, 1), 3), False)
        self.accepted(put(TOLD, (4, 0, 1), 1), False)
        self.accepted(put(TOLD, (3,), (0,) * 6), False)
        self.accepted(put(put(TOLD, (3,), (0,) * 6), (4,), ((0,) * 5,) * 4), False)
        moved = tuple(tuple(number - 9 for number in rise) for rise in RISES)
        self.accepted(put(TOLD, (4,), moved), True)
        turned = tuple(tuple(-number for number in rise) for rise in RISES)
        self.accepted(put(TOLD, (4,), turned), False)

    def test_ways(self):
        for fewer in shortened(WAYS):
            self.accepted(put(TOLD, (2,), fewer), False)
        for more in doubled(WAYS):
            self.accepted(put(TOLD, (2,), more), False)
        self.accepted(put(TOLD, (2,), WAYS[::-1]), True)
        for index in range(len(WAYS)):
            self.accepted(put(TOLD, (2, index, 2), (1, 3)), False)
            self.accepted(put(TOLD, (2, index, 1), WAYS[index][1][::-1]), False)
            self.accepted(put(TOLD, (2, index, 0), (WAYS[index][0] + 1) % 4), False)
            self.accepted(put(TOLD, (2, index, 0), 4), False)
            self.accepted(put(TOLD, (2, index, 0), WAYS[index][0] - 4), False)
        # The sums are right, but more goes along some road than it is wide.
        moved = put(put(TOLD, (2, 0, 2), (3, 4)), (2, 1, 2), (1, 8))
        self.accepted(put(moved, (2,), moved[2][:1] + moved[2][2:]), False)

    def test_amounts_and_shares_below_0(self):
        more = ((0, (0, 1), (3, 1)), (0, (0, 1), (-1, 1)))
        self.accepted(put(TWICE, (2,), more), False, PATH, ((0, 1, 1),))
        self.accepted(put(TWICE, (2,), TWICE[2] + ((0, (0, 1), (0, 1)),)), False, PATH, ((0, 1, 1),))
        below = ("share", (-1, 1), ((0, (0, 1), (-1, 1)),), (1,), ((0, 1, 0),))
        self.accepted(below, False, PATH, ((0, 1, 1),))
        self.accepted(put(below, (4,), ((1, 0, 0),)), False, PATH, ((0, 1, 1),))

    def test_one_number_changed(self):
        chance = random.Random(90)
        for net, wishes in share_tasks(60, 91):
            found = share_evidence(net, wishes)
            for _ in range(8):
                part = chance.choice((3, 4))
                if part == 3 and net[1]:
                    place = (3, chance.randrange(len(net[1])))
                    old = found[3][place[1]]
                else:
                    place = (4, chance.randrange(len(wishes)), chance.randrange(net[0]))
                    old = found[4][place[1]][place[2]]
                after = put(found, place, old + chance.choice((-1, 1)))
                self.accepted(after, is_right_share(net, wishes, after), net, wishes)

    def test_other_forms_and_kinds(self):
        for value, net, wishes in ((TOLD, FIVE, TRIANGLE), (TWICE, PATH, ((0, 1, 1),))):
            wrong = [other for other in in_other_forms(value) if form_of(other) != form_of(value)]
            wrong += shortened(value) + doubled(value) + shuffled(value) + [value[::-1], value[1:], *ODD_KINDS]
            wrong += [put(value, (index,), kind) for index in range(5) for kind in ODD_KINDS]
            wrong += [put(value, (index, 0), kind) for index in range(1, 5) for kind in ODD_KINDS
                      if not (type(kind) is int and put(value, (index, 0), kind) == value)]
            wrong += [(word, *value[1:]) for word in ("shares", "Share", "ways", "lengths", "")]
            for other in wrong:
                self.accepted(other, False, net, wishes)

    def test_the_judge_takes_every_net_and_all_wishes(self):
        ring = (7, tuple((one, other, 2) for one, other in ((0, 1), (0, 6), (1, 2), (2, 3), (3, 4), (4, 5), (5, 6))))
        ways = ((0, (0, 1, 2, 3), (2, 1)), (0, (0, 6, 5, 4, 3), (2, 1)))
        rises = ((0, 1, 1, 1, 1, 1, 1),)
        self.accepted(("share", (4, 1), ways, (1, 1, 0, 0, 0, 0, 0), rises), True, ring, ((0, 3, 1),))
        self.accepted(("share", (2, 1), ways, (1, 1, 0, 0, 0, 0, 0), rises), True, ring, ((0, 3, 2),))
        self.accepted(("share", (4, 1), ways, (1, 1, 0, 0, 0, 0, 0), rises), False, ring, ((0, 3, 2),))
        self.accepted(("share", (1, 1), (), (1,) * 15, ((0,) * 7,) * 10), False, FULL, TEN)


class TestPoint2(unittest.TestCase):
    def test_equal_arguments_give_equal_answers(self):
        for net, wishes in share_tasks(40, 92):
            again = (net[0], tuple(tuple(list(road)) for road in net[1])), tuple(tuple(list(wish)) for wish in wishes)
            self.assertEqual(share_evidence(net, wishes), share_evidence(*again))
            self.assertEqual(least_quotient(net, wishes), least_quotient(*again))


if __name__ == "__main__":
    unittest.main()
