"""Point 8, and the errors of each chapter: wrong arguments, the first one first, ahead of all other errors."""

import unittest

from samples import ACROSS, ODD_KINDS, RING
from wishshapes import (against, desk, ends, journals, lengths, made, meeting, nets, pairs, reading, rooms, scanning,
                        shapes, shares, single, tables, writing)
from wishshapes.errors import BadValue, NotPossible, TooLarge, WishError

TRUE_NET = (4, ((0, True, 1), (0, 3, 1), (1, 2, 1), (2, 3, 1)))
LIST_NET = (4, [(0, 1, 1), (0, 3, 1), (1, 2, 1), (2, 3, 1)])
LONG = tuple((one, other, 1) for one in range(3) for other in range(one + 1, 7))[:11]

LONG_SHAPE = tuple(link[:2] for link in LONG)
NUMBERS = ((0, 1, 4), (0, 2, 3), (0, 3, 0), (1, 2, 3), (1, 3, 0), (2, 3, 0))
SEVEN = (6, 5, 4, 3, 2, 1, 0)
BOTH = ((0, 1), (0, 2), (1, 2), (3, 4))
TOLD = ((5, ((0, 3, 1), (0, 4, 1), (1, 3, 1), (1, 4, 1), (2, 3, 1), (2, 4, 1))),
        ((0, 1, 1), (0, 2, 1), (1, 2, 1), (3, 4, 1)), (1, 1, 1, 1, 1, 1),
        ((0, 2, 2, 1, 1), (0, 2, 2, 1, 1), (2, 0, 2, 1, 1), (1, 1, 1, 0, 2)))

THREE = ((0, 1, 1), (0, 2, 1), (1, 3, 1))

# Where functions ask different things of an argument of the same name, a further word tells them apart.
RIGHT = {
    "net": RING, "wishes": ACROSS, "fence": (1, 2), "some": (0, 2), "order": (1, 0, 2, 3), "one": 1, "other": 3,
    "amount": 2, "points": 4, "numbers": NUMBERS, "pair": (0, 2), "other pair": (1, 3), "amounts": (1, 1),
    "shape": ((0, 1), (2, 3)), "order of seven": SEVEN, "value": None, "wish": 0, "path": (0, 1, 2),
    "amount of a way": 1, "lengths": (1, 1, 1, 1), "rises": ((0, 1, 2, 1), (1, 0, 1, 2)), "point": 3,
    "shape against": BOTH, "value against": TOLD, "order of five": (4, 3, 2, 1, 0), "factor": 2,
    "ends": (0, 2, 3), "end": 2, "other without a wish": 2, "number": 1, "road": 3, "indexes": (0, 1),
    "wishes that clash": THREE, "indexes that clash": (0, 1, 2), "text": "4: 0-1 1; 0-1 1", "kind": "ways",
    "text of ways": "0: 0-1-2 1/2", "ways": ((0, (0, 1, 2), (1, 2)),), "journal": (("wish", 0, 2, 1),),
}

# For each argument what is wrong for it while all the others are right.
WRONG = {
    "net": [TRUE_NET, LIST_NET, list(RING), (1, ()), (8, ()), (4, ((0, 4, 1),)), (4, ((0, 1, 7),)),
            (4, ((0, 1, 0),)), (4, ((1, 0, 1),)), (4, ((0, 3, 1), (0, 1, 1))), (4, ((0, 1, 1), (0, 1, 2))), (4,),
            RING[1], ("4", ()), (4, (), ())],
    "wishes": [[], list(ACROSS), ACROSS[::-1], ((0, 4, 1),), ((0, 1, 7),), ((0, 1, 0),), ((0, 1, True),), LONG,
               ((1, 1, 1),), ((0, 1, 1), (0, 1, 2)), ([0, 1, 1],), (0, 1, 1)],
    "fence": [(), (0,), (0, 1), (4,), (2, 1), (1, 1), [1, 2], (True,), (1, 2, 3, 4), 1, "12", (-1, 1)],
    "some": [(), (0, 1, 2, 3), (4,), (2, 0), (0, 0), [0, 2], (False, 2), (0, True), 0, "02", (-1, 0), (0, 2, 3, 5)],
    "order": [(), (0, 1, 2), (0, 1, 2, 2), (1, 2, 3, 4), (-1, 0, 1, 2), [0, 1, 2, 3], (0, 1, 2, 3, 4), (0, 1, 2, 3.0),
              (False, True, 2, 3), (0, True, 2, 3), (0, 1, 2, 3, 3), "0123", (0, 0, 3, 3), range(4)],
    "one": [-1, 4, 5, True, False, 1.0, "1", None, (1,), [1]],
    "other": [-1, 4, 5, 0, 1, True, 3.0, "3", None, (3,), [3]],
    "amount": [-1, 41, 100, True, False, 2.0, "2", None, (2,), [2]],
    "points": [-4, 0, 1, 8, True, 4.0, "4", None, (4,), [4]],
    "numbers": [(), NUMBERS[1:], NUMBERS[:-1], NUMBERS + ((3, 4, 0),), NUMBERS[::-1], list(NUMBERS),
                NUMBERS + NUMBERS[:1], ((0, 1, 7), *NUMBERS[1:]), ((0, 1, -1), *NUMBERS[1:]),
                ((0, 1, True), *NUMBERS[1:]),
                ((0, True, 4), *NUMBERS[1:]), ((False, 1, 4), *NUMBERS[1:]), ((1, 0, 4), *NUMBERS[1:]),
                ([0, 1, 4], *NUMBERS[1:]), ((0, 1), *NUMBERS[1:]), ((0, 1, 4, 0), *NUMBERS[1:]),
                ((0, 1, 4.0), *NUMBERS[1:]),
                (None, *NUMBERS[1:]),
                (NUMBERS[1], NUMBERS[0], *NUMBERS[2:]), (*NUMBERS[:5], (2, 4, 0)), ((0, 1, 1), (0, 2, 1), (1, 2, 1))],
    "pair": [(2, 0), (0, 0), (0, 4), (-1, 2), (0,), (0, 1, 2), [0, 2], (False, 2), (0, True), (0, 2.0), "02", 2, ()],
    "other pair": [(0, 2), (3, 1), (1, 1), (1, 4), (-1, 3), (1,), (1, 2, 3), [1, 3], (True, 3), (1, 3.0), "13", 1, ()],
    "amounts": [(), (1,), (1, 1, 1), [1, 1], (-1, 1), (1, -1), (41, 1), (1, 41), (True, 1), (1, False), (1.0, 1),
                (1, None), 1, "11", ((1, 1), (1, 1))],
    "shape": [((2, 3), (0, 1)), ((0, 1), (0, 1)), ((1, 0),), ((0, 7),), ((-1, 0),), ((0, 0),), [(0, 1)], ([0, 1],),
              ((0,),), ((0, 1, 2),), ((False, 1),), ((0, True),), ((0, 1.0),), (0, 1), "01", LONG_SHAPE],
    "order of seven": [(), (0, 1, 2, 3), (0, 1, 2, 3, 4, 5), (0, 1, 2, 3, 4, 5, 6, 7), (0, 1, 2, 3, 4, 5, 5),
                       list(SEVEN), (1, 2, 3, 4, 5, 6, 7), (-1, 0, 1, 2, 3, 4, 5), (6, 5, 4, 3, 2, True, 0),
                       (6, 5, 4, 3, 2, 1, False),
                       (6, 5, 4, 3, 2, 1, 0.0), "0123456", range(7)],
    "wish": [-1, -2, 2, 3, True, False, 0.0, "0", None, (0,), [0]],
    "path": [(), (0,), (0, 2), (2, 1, 0), (0, 1), (1, 2), (1, 0, 3), (0, 1, 3, 2), (0, 1, 1, 2), (0, 1, 0, 3, 2),
             (0, 1, 2, 3), (0, 4, 2), (0, -3, 2), (0, True, 2), (False, 1, 2), (0, 1, 2.0), [0, 1, 2], "012", 0],
    "amount of a way": [0, -1, True, False, 1.0, "1", None, (1,), [1], (1, 1)],
    "lengths": [(), (1, 1, 1), (1, 1, 1, 1, 1), [1, 1, 1, 1], (-1, 1, 1, 1), (1, 1, 1, -1), (True, 1, 1, 1),
                (1, 1, 1, False), (1, 1.0, 1, 1), (1, None, 1, 1), ((1,), 1, 1, 1), "1111", 4],
    "rises": [(), ((0, 1, 2, 1),), ((0, 1, 2, 1),) * 3, [(0, 1, 2, 1), (1, 0, 1, 2)], ([0, 1, 2, 1], (1, 0, 1, 2)),
              ((0, 1, 2, 1), (1, 0, 1)), ((0, 1, 2, 1), (1, 0, 1, 2, 3)), ((0, 2, 2, 1), (1, 0, 1, 2)),
              ((0, 1, 2, 1), (1, 0, 1, 3)), ((0, 1, 2, 1), (1, 0, 1, True)), ((False, 1, 2, 1), (1, 0, 1, 2)),
              ((0, 1, 2, 1.0), (1, 0, 1, 2)), ((0, 1, 2, None), (1, 0, 1, 2)), ((0, 1, 2, 1), None), (0, 1, 2, 1)],
    "point": [-1, 4, 5, True, False, 3.0, "3", None, (3,), [3]],
    "shape against": [((2, 3), (0, 1)), ((0, 1), (0, 1)), ((1, 0),), ((0, 7),), ((0, 0),), list(BOTH), ((0, True),)],
    "value against": [(), TOLD[:3], (*TOLD, ()), list(TOLD), TOLD[::-1], (*TOLD[:3], list(TOLD[3])),
                      (TOLD[0], TOLD[1][:3], TOLD[2], TOLD[3][:3]), (*TOLD[:2], (1,) * 5, TOLD[3]),
                      (*TOLD[:2], (2, 1, 1, 1, 1, 1), ((0, 2, 2, 1, 1),) * 3 + TOLD[3][3:]), ((5, ()), *TOLD[1:]),
                      (*TOLD[:2], (True,) * 6, TOLD[3]), (*TOLD[:3], ((0, 0, 0, 0, 0),) * 4)],
    "order of five": [(), (0, 1, 2, 3), (0, 1, 2, 3, 4, 5), (0, 1, 2, 3, 3), [4, 3, 2, 1, 0], (5, 4, 3, 2, 1), SEVEN,
                      (4, 3, 2, True, 0), (4, 3, 2, 1, False), (4, 3, 2, 1, 0.0), "01234", range(5)],
    "factor": [0, -1, 7, 8, True, False, 2.0, "2", None, (2,), [2]],
    "ends": [(), (0,), (0, 4), (-1, 2), (2, 0), (0, 0, 2), (0, 2, 2), [0, 2], (False, 2), (0, True), (0, 2.0), "02",
             (0, 1, 2, 3, 4), (0, None), 2, range(2)],
    "end": [-1, 1, 4, True, False, 2.0, "2", None, (2,), [2]],
    "number": [-1, -2, 2, 3, True, False, 1.0, "1", None, (1,), [1]],
    "road": [-1, -4, 4, 5, True, False, 3.0, "3", None, (3,), [3]],
    "indexes": [(2,), (-1,), (1, 0), (0, 0), (0, 1, 2), [0, 1], [], (False, 1), (0, True), (0.0,), "01", 0, range(2)],
    "text": ["4:\n", "\n", "\n4: 0-1 1", " " * 1501, "4:" + " " * 1499, b"4:", list("4:"), ("4:",), None, 4],
    "kind": ["", "Task", "tasks", "way", "task ", " ways", b"ways", ("ways",), ["ways"], None, 0],
    "ways": [[], list(RIGHT["ways"]), RIGHT["ways"][0], ((2, (0, 1, 2), (1, 2)),), ((-1, (0, 1, 2), (1, 2)),),
             ((True, (1, 2, 3), (1, 2)),), ((0, (2, 1, 0), (1, 2)),), ((0, (0, 2), (1, 2)),), ((1, (0, 1, 2), (1, 2)),),
             ((0, [0, 1, 2], (1, 2)),), ((0, (0, 1, 2), (2, 4)),), ((0, (0, 1, 2), (0, 1)),), ((0, (0, 1, 2), 1),),
             ((0, (0, 1, 2), (1, 0)),), ((0, (0, 1, 2), (-1, 2)),), ((0, (0, 1, 2), [1, 2]),), ((0, (0, 1, 2)),),
             ((0, (0, 1, 0, 3, 2), (1, 2)),), ((0, (0, 1, 2), (True, 2)),), RIGHT["ways"] + (None,)],
    "journal": [[], list(RIGHT["journal"]), RIGHT["journal"][0], RIGHT["journal"] * 21, (["wish", 0, 2, 1],),
                RIGHT["journal"] + (None,), (("wish", 0, 2, 1), "road"), ("wish",), None, "journal", {}],
}
WRONG["other without a wish"] = [0, 1, *WRONG["other"]]
WRONG["wishes that clash"], WRONG["text of ways"] = WRONG["wishes"], WRONG["text"]
WRONG["indexes that clash"] = [(0, 3), (0, 1, 2, 3), *WRONG["indexes"][1:4], *WRONG["indexes"][5:]]

ARGUMENTS = {
    nets.fences: ("net",),
    nets.widths_at: ("net",),
    nets.parts: ("net",),
    nets.fence_of: ("net", "some"),
    nets.width: ("net", "fence"),
    nets.load: ("net", "wishes", "fence"),
    nets.room: ("net", "wishes", "fence"),
    nets.weak_fences: ("net", "wishes"),
    nets.tight_fences: ("net", "wishes"),
    nets.first_weak: ("net", "wishes"),
    nets.odd_points: ("net", "wishes"),
    made.renamed: ("net", "wishes", "order"),
    made.put_together: ("net", "wishes", "one", "other"),
    single.most: ("net", "one", "other"),
    single.bundle: ("net", "one", "other"),
    single.accepts_bundle: ("net", "one", "other", "value"),
    single.amount_evidence: ("net", "one", "other", "amount"),
    single.accepts_amount: ("net", "one", "other", "amount", "value"),
    single.least_fences: ("net", "one", "other"),
    single.sides: ("net", "one", "other"),
    single.narrower_roads: ("net", "one", "other"),
    single.wider_roads: ("net", "one", "other"),
    tables.table: ("net",),
    tables.tree: ("net",),
    tables.numbers_evidence: ("points", "numbers"),
    tables.accepts_numbers: ("points", "numbers", "value"),
    pairs.bounds: ("net", "pair", "other pair"),
    pairs.bound_fences: ("net", "pair", "other pair"),
    pairs.go_together: ("net", "pair", "other pair", "amounts"),
    pairs.most_beside: ("net", "pair", "other pair", "amount"),
    pairs.together_evidence: ("net", "pair", "other pair", "amounts"),
    pairs.accepts_together: ("net", "pair", "other pair", "amounts", "value"),
    pairs.greatest_amounts: ("net", "pair", "other pair"),
    pairs.count_amounts: ("net", "pair", "other pair"),
    shapes.is_enough: ("shape",),
    shapes.shape_evidence: ("shape",),
    shapes.accepts_shape: ("shape", "value"),
    shapes.least_parts: ("shape",),
    shapes.greatest_parts: ("shape",),
    shapes.put_away: ("shape",),
    shapes.may_join: ("shape", "points"),
    shapes.renamed_shape: ("shape", "order of seven"),
    meeting.taken: ("net", "wishes", "wish", "path", "amount of a way"),
    meeting.most_along: ("net", "wishes", "wish", "path"),
    meeting.is_met: ("net", "wishes"),
    meeting.meeting_evidence: ("net", "wishes"),
    meeting.accepts_meeting: ("net", "wishes", "value"),
    against.net_against: ("shape against",),
    against.accepts_against: ("shape against", "value"),
    against.renamed_against: ("shape against", "value against", "order of five"),
    against.multiplied: ("shape against", "value against", "factor"),
    lengths.worth: ("net", "lengths"),
    lengths.need: ("net", "wishes", "lengths", "rises"),
    lengths.lengths_of: ("net", "wishes", "fence"),
    lengths.rise_from: ("net", "lengths", "point"),
    lengths.can_be_met: ("net", "wishes"),
    lengths.told_evidence: ("net", "wishes"),
    lengths.accepts_evidence: ("net", "wishes", "value"),
    ends.reach: ("net", "ends", "end"),
    ends.greatest_total: ("net", "ends"),
    ends.ends_evidence: ("net", "ends"),
    ends.accepts_ends: ("net", "ends", "value"),
    shares.greatest_share: ("net", "wishes"),
    shares.share_evidence: ("net", "wishes"),
    shares.accepts_share: ("net", "wishes", "value"),
    shares.least_quotient: ("net", "wishes"),
    rooms.room_between: ("net", "wishes", "one", "other"),
    rooms.room_tree: ("net", "wishes"),
    rooms.room_for: ("net", "wishes", "one", "other without a wish"),
    rooms.wish_room: ("net", "wishes", "number"),
    rooms.road_room: ("net", "wishes", "road"),
    rooms.wish_evidence: ("net", "wishes", "number"),
    rooms.road_evidence: ("net", "wishes", "road"),
    rooms.accepts_wish: ("net", "wishes", "number", "value"),
    rooms.accepts_road: ("net", "wishes", "road", "value"),
    rooms.go_together: ("net", "wishes", "indexes"),
    rooms.clashes: ("net", "wishes"),
    rooms.sure_wishes: ("net", "wishes"),
    rooms.given_up: ("net", "wishes"),
    rooms.clash_evidence: ("net", "wishes that clash", "indexes that clash"),
    rooms.accepts_clash: ("net", "wishes", "indexes", "value"),
    scanning.scan: ("text",),
    reading.next_tokens: ("text of ways", "kind"),
    reading.read_task: ("text",),
    reading.read_ways: ("net", "wishes", "text of ways"),
    writing.task_text: ("net", "wishes"),
    writing.ways_text: ("net", "wishes", "ways"),
    desk.Desk: ("net",),
    journals.replayed: ("net", "journal"),
    journals.are_right: ("net", "value"),
}


def is_right_kind(name, kind):
    """Tell whether this one of the odd kinds is not wrong for the argument by itself."""
    if name == "amount of a way":
        # Any integer from 1 on is an amount, however great.
        return type(kind) is int and kind >= 1
    if name == "journal":
        # Which tuples are commands is asked later.
        return type(kind) is tuple and all(type(item) is tuple for item in kind)
    return name.split()[0] == "text" and type(kind) is str


def wrong_for(name):
    """Return what is wrong for an argument; for a value that is judged nothing is."""
    if name == "value":
        return []
    return [*WRONG[name], *[kind for kind in ODD_KINDS if not is_right_kind(name, kind)]]


class TestWrongArguments(unittest.TestCase):
    def raises(self, function, arguments, name):
        with self.subTest(function=function.__name__, name=name):
            with self.assertRaises(BadValue) as caught:
                function(*arguments)
            self.assertEqual(caught.exception.name, name)
            self.assertIsInstance(caught.exception, WishError)
            self.assertIsInstance(caught.exception, ValueError)

    def test_right_arguments_raise_nothing(self):
        for function, names in ARGUMENTS.items():
            function(*[RIGHT[name] for name in names])

    def test_each_wrong_argument_alone(self):
        for function, names in ARGUMENTS.items():
            for index, name in enumerate(names):
                for wrong in wrong_for(name):
                    arguments = [RIGHT[other] for other in names]
                    arguments[index] = wrong
                    self.raises(function, arguments, name.split()[0])

    def test_each_wrong_argument_with_all_later_ones_wrong(self):
        for function, names in ARGUMENTS.items():
            for index, name in enumerate(names):
                for number, wrong in enumerate(wrong_for(name)):
                    later = [ODD_KINDS if other == "value" else WRONG[other] for other in names[index + 1:]]
                    earlier = [RIGHT[other] for other in names[:index]]
                    arguments = [*earlier, wrong, *[choices[number % len(choices)] for choices in later]]
                    self.raises(function, arguments, name.split()[0])

    def test_values_that_are_judged_raise_nothing(self):
        for function, names in ARGUMENTS.items():
            if names[-1] == "value":
                earlier = [RIGHT[other] for other in names[:-1]]
                for value in ODD_KINDS:
                    self.assertIs(function(*earlier, value), False)

    def test_the_judges_need_a_net(self):
        for judge, right in ((nets.are_wishes, ACROSS), (nets.is_fence, (1,))):
            for wrong in [*WRONG["net"], *ODD_KINDS]:
                self.raises(judge, [wrong, right], "net")
                self.raises(judge, [wrong, None], "net")
                self.raises(judge, [wrong, wrong], "net")

    def test_what_fits_only_another_net(self):
        small = (3, ((0, 1, 1), (1, 2, 1)))
        self.raises(nets.weak_fences, [small, ACROSS], "wishes")
        self.raises(nets.width, [small, (1, 3)], "fence")
        self.raises(nets.fence_of, [small, (0, 1, 2)], "some")
        self.raises(made.renamed, [small, (), (1, 0, 2, 3)], "order")
        self.raises(made.put_together, [small, (), 3, 4], "one")
        self.raises(made.put_together, [small, (), 2, 3], "other")

    def test_some_points_may_hold_the_point_0_and_a_fence_may_not(self):
        self.assertEqual(nets.fence_of(RING, (0, 1, 2)), (3,))
        self.raises(nets.width, [RING, (0, 1, 2)], "fence")

    def test_the_last_point_is_a_point_but_has_no_greater_one(self):
        self.raises(made.put_together, [RING, (), 3, 3], "other")
        self.raises(made.put_together, [RING, (), 3, 4], "other")
        self.raises(made.put_together, [RING, (), 4, 5], "one")

    def test_wrong_arguments_come_ahead_of_the_two_points(self):
        bare = (2, ())
        for arguments, name in (([(2, []), (), 0, 1], "net"), ([bare, None, 0, 1], "wishes"), ([bare, (), 2, 1], "one"),
                                ([bare, (), 0, 2], "other"), ([bare, (), 1, 1], "other"),
                                ([bare, (), 0, True], "other")):
            self.raises(made.put_together, arguments, name)
        with self.assertRaises(NotPossible) as caught:
            made.put_together(bare, (), 0, 1)
        self.assertEqual(caught.exception.why, "two")

    def test_wrong_arguments_come_ahead_of_too_much(self):
        links = ((0, 2, 4), (1, 2, 3))
        net = (3, links)
        for arguments, name in (([list(net), links, 0, 1], "net"), ([net, list(links), 0, 1], "wishes"),
                                ([net, links, False, 1], "one"), ([net, links, 0, 0], "other"),
                                ([net, links, 0, 3], "other")):
            self.raises(made.put_together, arguments, name)
        with self.assertRaises(TooLarge) as caught:
            made.put_together(net, links, 0, 1)
        self.assertEqual(caught.exception.what, "width")

    def test_wrong_arguments_come_ahead_of_too_much_for_the_other_pair(self):
        right = [RING, (0, 2), (1, 3), 3]
        for index, wrong, name in ((0, LIST_NET, "net"), (1, (2, 0), "pair"), (2, (0, 2), "other"), (3, 41, "amount")):
            self.raises(pairs.most_beside, [*right[:index], wrong, *right[index + 1:]], name)
        for amount in (3, 40):
            with self.assertRaises(NotPossible) as caught:
                pairs.most_beside(*right[:3], amount)
            self.assertEqual(caught.exception.why, "amount")
        self.assertEqual(pairs.most_beside(*right[:3], 2), 0)

    def test_what_is_let(self):
        seven = (7, tuple((one, 6, 6) for one in range(6)))
        for amount in (0, 40):
            single.amount_evidence(seven, 0, 6, amount)
            single.accepts_amount(seven, 5, 6, amount, None)
            pairs.go_together(seven, (0, 6), (5, 6), (amount, 40 - amount))
            pairs.together_evidence(seven, (0, 6), (5, 6), (amount, amount))
            pairs.accepts_together(seven, (0, 6), (5, 6), (40, amount), None)
        self.assertEqual(pairs.most_beside(seven, (0, 6), (5, 6), 0), 6)
        self.assertEqual(pairs.most_beside(seven, (0, 5), (1, 5), 6), 0)
        for points in range(2, 8):
            zeros = tuple((one, other, 0) for one in range(points) for other in range(one + 1, points))
            sixes = tuple((one, other, 6) for one, other, _ in zeros)
            tables.numbers_evidence(points, zeros)
            tables.accepts_numbers(points, sixes, None)
            shapes.may_join((), points)
        ten = LONG_SHAPE[:10]
        for function in (shapes.is_enough, shapes.shape_evidence, shapes.least_parts, shapes.greatest_parts,
                         shapes.put_away):
            function(ten)
            function(())

    def test_a_pair_may_come_after_the_other_one_and_share_a_point(self):
        self.assertEqual(pairs.bounds(RING, (1, 3), (0, 2)), (2, 2, 2))
        self.assertEqual(pairs.bounds(RING, (0, 2), (0, 1)), (2, 2, 2))

    def test_numbers_for_other_points(self):
        self.raises(tables.numbers_evidence, [3, NUMBERS], "numbers")
        self.raises(tables.accepts_numbers, [5, NUMBERS, None], "numbers")
        self.raises(tables.numbers_evidence, [2, ()], "numbers")

    def test_wrong_arguments_are_not_changed(self):
        net, wishes, order = [4, [[0, 1, 1]]], [[0, 1, 1]], [0, 1, 2, 3]
        self.raises(nets.weak_fences, [net, wishes], "net")
        self.raises(made.renamed, [RING, wishes, order], "wishes")
        self.raises(made.renamed, [RING, ACROSS, order], "order")
        self.assertEqual((net, wishes, order), ([4, [[0, 1, 1]]], [[0, 1, 1]], [0, 1, 2, 3]))

    def test_after_an_error_all_is_as_before(self):
        before = nets.fences(RING)
        self.raises(nets.fences, [LIST_NET], "net")
        self.assertEqual(nets.fences(RING), before)


if __name__ == "__main__":
    unittest.main()
