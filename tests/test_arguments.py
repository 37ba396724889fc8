"""Points 8 and 20: wrong arguments, the first one first, ahead of all other errors."""

import unittest

from samples import ACROSS, ODD_KINDS, RING
from wishshapes import made, nets
from wishshapes.errors import BadValue, NotPossible, TooLarge, WishError

TRUE_NET = (4, ((0, True, 1), (0, 3, 1), (1, 2, 1), (2, 3, 1)))
LIST_NET = (4, [(0, 1, 1), (0, 3, 1), (1, 2, 1), (2, 3, 1)])
LONG = tuple((one, other, 1) for one in range(3) for other in range(one + 1, 7))[:11]

RIGHT = {"net": RING, "wishes": ACROSS, "fence": (1, 2), "some": (0, 2), "order": (1, 0, 2, 3), "one": 1, "other": 3}

# For each argument what is wrong for it while all the others are right.
WRONG = {
    "net": [TRUE_NET, LIST_NET, list(RING), (1, ()), (8, ()), (4, ((0, 4, 1),)), (4, ((0, 1, 7),)),
            (4, ((0, 1, 0),)), (4, ((1, 0, 1),)), (4, ((0, 3, 1), (0, 1, 1))), (4, ((0, 1, 1), (0, 1, 2))), (4,), RING[1],
            ("4", ()), (4, (), ())],
    "wishes": [[], list(ACROSS), ACROSS[::-1], ((0, 4, 1),), ((0, 1, 7),), ((0, 1, 0),), ((0, 1, True),), LONG,
               ((1, 1, 1),), ((0, 1, 1), (0, 1, 2)), ([0, 1, 1],), (0, 1, 1)],
    "fence": [(), (0,), (0, 1), (4,), (2, 1), (1, 1), [1, 2], (True,), (1, 2, 3, 4), 1, "12", (-1, 1)],
    "some": [(), (0, 1, 2, 3), (4,), (2, 0), (0, 0), [0, 2], (False, 2), (0, True), 0, "02", (-1, 0), (0, 2, 3, 5)],
    "order": [(), (0, 1, 2), (0, 1, 2, 2), (1, 2, 3, 4), (-1, 0, 1, 2), [0, 1, 2, 3], (0, 1, 2, 3, 4), (0, 1, 2, 3.0),
              (False, True, 2, 3), (0, True, 2, 3), (0, 1, 2, 3, 3), "0123", (0, 0, 3, 3), range(4)],
    "one": [-1, 4, 5, True, False, 1.0, "1", None, (1,), [1]],
    "other": [-1, 4, 5, 0, 1, True, 3.0, "3", None, (3,), [3]],
}

ARGUMENTS = {
    nets.fences: ("net",),
    nets.widths_at: ("net",),
    nets.parts: ("net",),
    nets.fence_of: ("net", "some"),
    nets.width: ("net", "fence"),
    nets.load: ("net", "wishes", "fence"),
    nets.room: ("net", "wishes", "fence"),
    nets.weak_fences: ("net", "wishes"),
    nets.tight_fences: ("net", "wishes"),
    nets.first_weak: ("net", "wishes"),
    nets.odd_points: ("net", "wishes"),
    made.renamed: ("net", "wishes", "order"),
    made.put_together: ("net", "wishes", "one", "other"),
}


class TestWrongArguments(unittest.TestCase):
    def raises(self, function, arguments, name):
        with self.subTest(function=function.__name__, name=name):
            with self.assertRaises(BadValue) as caught:
                function(*arguments)
            self.assertEqual(caught.exception.name, name)
            self.assertIsInstance(caught.exception, WishError)
            self.assertIsInstance(caught.exception, ValueError)

    def test_right_arguments_raise_nothing(self):
        for function, names in ARGUMENTS.items():
            function(*[RIGHT[name] for name in names])

    def test_each_wrong_argument_alone(self):
        for function, names in ARGUMENTS.items():
            for index, name in enumerate(names):
                for wrong in [*WRONG[name], *ODD_KINDS]:
                    arguments = [RIGHT[other] for other in names]
                    arguments[index] = wrong
                    self.raises(function, arguments, name)

    def test_each_wrong_argument_with_all_later_ones_wrong(self):
        for function, names in ARGUMENTS.items():
            for index, name in enumerate(names):
                for number, wrong in enumerate([*WRONG[name], *ODD_KINDS]):
                    later = [WRONG[other][number % len(WRONG[other])] for other in names[index + 1:]]
                    earlier = [RIGHT[other] for other in names[:index]]
                    self.raises(function, [*earlier, wrong, *later], name)

    def test_the_judges_need_a_net(self):
        for judge, right in ((nets.are_wishes, ACROSS), (nets.is_fence, (1,))):
            for wrong in [*WRONG["net"], *ODD_KINDS]:
                self.raises(judge, [wrong, right], "net")
                self.raises(judge, [wrong, None], "net")
                self.raises(judge, [wrong, wrong], "net")

    def test_what_fits_only_another_net(self):
        small = (3, ((0, 1, 1), (1, 2, 1)))
        self.raises(nets.weak_fences, [small, ACROSS], "wishes")
        self.raises(nets.width, [small, (1, 3)], "fence")
        self.raises(nets.fence_of, [small, (0, 1, 2)], "some")
        self.raises(made.renamed, [small, (), (1, 0, 2, 3)], "order")
        self.raises(made.put_together, [small, (), 3, 4], "one")
        self.raises(made.put_together, [small, (), 2, 3], "other")

    def test_some_points_may_hold_the_point_0_and_a_fence_may_not(self):
        self.assertEqual(nets.fence_of(RING, (0, 1, 2)), (3,))
        self.raises(nets.width, [RING, (0, 1, 2)], "fence")

    def test_the_last_point_is_a_point_but_has_no_greater_one(self):
        self.raises(made.put_together, [RING, (), 3, 3], "other")
        self.raises(made.put_together, [RING, (), 3, 4], "other")
        self.raises(made.put_together, [RING, (), 4, 5], "one")

    def test_wrong_arguments_come_ahead_of_the_two_points(self):
        bare = (2, ())
        for arguments, name in (([(2, []), (), 0, 1], "net"), ([bare, None, 0, 1], "wishes"), ([bare, (), 2, 1], "one"),
                                ([bare, (), 0, 2], "other"), ([bare, (), 1, 1], "other"), ([bare, (), 0, True], "other")):
            self.raises(made.put_together, arguments, name)
        with self.assertRaises(NotPossible) as caught:
            made.put_together(bare, (), 0, 1)
        self.assertEqual(caught.exception.why, "two")

    def test_wrong_arguments_come_ahead_of_too_much(self):
        links = ((0, 2, 4), (1, 2, 3))
        net = (3, links)
        for arguments, name in (([list(net), links, 0, 1], "net"), ([net, list(links), 0, 1], "wishes"),
                                ([net, links, False, 1], "one"), ([net, links, 0, 0], "other"), ([net, links, 0, 3], "other")):
            self.raises(made.put_together, arguments, name)
        with self.assertRaises(TooLarge) as caught:
            made.put_together(net, links, 0, 1)
        self.assertEqual(caught.exception.what, "width")

    def test_wrong_arguments_are_not_changed(self):
        net, wishes, order = [4, [[0, 1, 1]]], [[0, 1, 1]], [0, 1, 2, 3]
        self.raises(nets.weak_fences, [net, wishes], "net")
        self.raises(made.renamed, [RING, wishes, order], "wishes")
        self.raises(made.renamed, [RING, ACROSS, order], "order")
        self.assertEqual((net, wishes, order), ([4, [[0, 1, 1]]], [[0, 1, 1]], [0, 1, 2, 3]))

    def test_after_an_error_all_is_as_before(self):
        before = nets.fences(RING)
        self.raises(nets.fences, [LIST_NET], "net")
        self.assertEqual(nets.fences(RING), before)


if __name__ == "__main__":
    unittest.main()
