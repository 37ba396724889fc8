"""The interface: names, arguments, places and examples, and the example of point 21."""

import doctest
import inspect
import unittest

from wishshapes import errors, made, nets

LISTED = {
    nets: {
        "is_net": ["value"], "are_wishes": ["net", "value"], "is_fence": ["net", "value"], "fences": ["net"],
        "fence_of": ["net", "some"], "width": ["net", "fence"], "load": ["net", "wishes", "fence"],
        "room": ["net", "wishes", "fence"], "weak_fences": ["net", "wishes"], "tight_fences": ["net", "wishes"],
        "first_weak": ["net", "wishes"], "widths_at": ["net"], "odd_points": ["net", "wishes"], "parts": ["net"],
    },
    made: {"renamed": ["net", "wishes", "order"], "put_together": ["net", "wishes", "one", "other"]},
}

CLASSES = {"WishError": None, "BadValue": ["name"], "TooLarge": ["what"], "NotPossible": ["why"],
           "TextError": ["column", "words"]}

EXAMPLES = """
>>> from wishshapes.made import put_together, renamed
>>> from wishshapes.nets import fence_of, fences, load, odd_points, parts, room, tight_fences, weak_fences, width, widths_at
>>> ring = (4, ((0, 1, 1), (0, 3, 1), (1, 2, 1), (2, 3, 1)))
>>> across = ((0, 2, 1), (1, 3, 1))
>>> fences(ring)
[(1,), (1, 2), (1, 2, 3), (1, 3), (2,), (2, 3), (3,)]
>>> [room(ring, across, fence) for fence in fences(ring)], tight_fences(ring, across), weak_fences(ring, ((0, 2, 2), (1, 3, 1)))
([1, 0, 1, 4, 1, 0, 1], [(1, 2), (2, 3)], [(1, 2), (2, 3)])
>>> width(ring, (1, 3)), load(ring, across, (1, 3)), fence_of(ring, (0, 2)), odd_points(ring, across), odd_points(ring, across[:1])
(4, 0, (1, 3), (0, 1, 2, 3), (0, 2))
>>> widths_at((3, ((0, 2, 5),))), parts((3, ((0, 2, 5),))), parts((2, ()))
((5, 0, 5), ((0, 2), (1,)), ((0,), (1,)))
>>> renamed(ring, across, (1, 0, 2, 3))
((4, ((0, 1, 1), (0, 2, 1), (1, 3, 1), (2, 3, 1))), ((0, 3, 1), (1, 2, 1)))
>>> put_together(ring, across, 1, 3)
((3, ((0, 1, 2), (1, 2, 2))), ((0, 2, 1),))
"""


class TestInterface(unittest.TestCase):
    def test_functions(self):
        for module, functions in LISTED.items():
            for name, arguments in functions.items():
                function = getattr(module, name)
                self.assertTrue(inspect.isfunction(function))
                self.assertEqual(function.__module__, module.__name__)
                self.assertEqual(list(inspect.signature(function).parameters), arguments)

    def test_arguments_by_name(self):
        ring, across = (4, ((0, 1, 1), (0, 3, 1), (1, 2, 1), (2, 3, 1))), ((0, 2, 1), (1, 3, 1))
        self.assertEqual(nets.room(net=ring, wishes=across, fence=(1,)), 1)
        self.assertEqual(nets.fence_of(net=ring, some=(0,)), (1, 2, 3))
        self.assertEqual(made.put_together(net=ring, wishes=(), one=0, other=2)[0], (3, ((0, 1, 2), (0, 2, 2))))

    def test_classes(self):
        for name, arguments in CLASSES.items():
            found = getattr(errors, name)
            self.assertEqual(found.__module__, "wishshapes.errors")
            if arguments is not None:
                self.assertIn("__init__", vars(found))
                self.assertEqual(list(inspect.signature(found).parameters), arguments)

    def test_examples(self):
        test = doctest.DocTestParser().get_doctest(EXAMPLES, {}, "examples", None, 0)
        runner = doctest.DocTestRunner()
        runner.run(test)
        self.assertEqual((runner.failures, runner.tries), (0, 10))


class TestPoint21(unittest.TestCase):
    def test_ring_of_four_points(self):
        ring, across = (4, ((0, 1, 1), (0, 3, 1), (1, 2, 1), (2, 3, 1))), ((0, 2, 1), (1, 3, 1))
        for fence in nets.fences(ring):
            if len(fence) in (1, 3):
                self.assertEqual(nets.room(ring, across, fence), 1)
        self.assertEqual([nets.room(ring, across, fence) for fence in ((1, 2), (2, 3))], [0, 0])
        self.assertEqual(nets.tight_fences(ring, across), [(1, 2), (2, 3)])
        self.assertEqual((nets.width(ring, (1, 3)), nets.load(ring, across, (1, 3))), (4, 0))
        self.assertEqual(nets.odd_points(ring, across), (0, 1, 2, 3))


if __name__ == "__main__":
    unittest.main()
