"""The interface: names, arguments, places and examples, and the example of point 21."""

import doctest
import inspect
import unittest
from pathlib import Path

import examples
from wishshapes import (against, desk, ends, errors, journals, lengths, made, meeting, nets, pairs, reading, rooms,
                        scanning, shapes, shares, single, tables, writing)

LISTED = {
    nets: {
        "is_net": ["value"], "are_wishes": ["net", "value"], "is_fence": ["net", "value"], "fences": ["net"],
        "fence_of": ["net", "some"], "width": ["net", "fence"], "load": ["net", "wishes", "fence"],
        "room": ["net", "wishes", "fence"], "weak_fences": ["net", "wishes"], "tight_fences": ["net", "wishes"],
        "first_weak": ["net", "wishes"], "widths_at": ["net"], "odd_points": ["net", "wishes"], "parts": ["net"],
    },
    made: {"renamed": ["net", "wishes", "order"], "put_together": ["net", "wishes", "one", "other"]},
    single: {
        "most": ["net", "one", "other"], "bundle": ["net", "one", "other"],
        "accepts_bundle": ["net", "one", "other", "value"], "amount_evidence": ["net", "one", "other", "amount"],
        "accepts_amount": ["net", "one", "other", "amount", "value"], "least_fences": ["net", "one", "other"],
        "sides": ["net", "one", "other"], "narrower_roads": ["net", "one", "other"],
        "wider_roads": ["net", "one", "other"],
    },
    tables: {
        "table": ["net"], "tree": ["net"], "numbers_evidence": ["points", "numbers"],
        "accepts_numbers": ["points", "numbers", "value"],
    },
    pairs: {
        "bounds": ["net", "pair", "other"], "bound_fences": ["net", "pair", "other"],
        "go_together": ["net", "pair", "other", "amounts"], "most_beside": ["net", "pair", "other", "amount"],
        "together_evidence": ["net", "pair", "other", "amounts"],
        "accepts_together": ["net", "pair", "other", "amounts", "value"],
        "greatest_amounts": ["net", "pair", "other"], "count_amounts": ["net", "pair", "other"],
    },
    shapes: {
        "is_shape": ["value"], "is_enough": ["shape"], "shape_evidence": ["shape"],
        "accepts_shape": ["shape", "value"], "least_parts": ["shape"], "greatest_parts": ["shape"],
        "put_away": ["shape"], "may_join": ["shape", "points"], "renamed_shape": ["shape", "order"],
    },
    meeting: {
        "taken": ["net", "wishes", "wish", "path", "amount"], "most_along": ["net", "wishes", "wish", "path"],
        "is_met": ["net", "wishes"], "meeting_evidence": ["net", "wishes"],
        "accepts_meeting": ["net", "wishes", "value"],
    },
    against: {
        "net_against": ["shape"], "accepts_against": ["shape", "value"],
        "renamed_against": ["shape", "value", "order"], "multiplied": ["shape", "value", "factor"],
    },
    lengths: {
        "worth": ["net", "lengths"], "need": ["net", "wishes", "lengths", "rises"],
        "lengths_of": ["net", "wishes", "fence"], "rise_from": ["net", "lengths", "point"],
        "can_be_met": ["net", "wishes"], "told_evidence": ["net", "wishes"],
        "accepts_evidence": ["net", "wishes", "value"],
    },
    ends: {
        "reach": ["net", "ends", "end"], "greatest_total": ["net", "ends"], "ends_evidence": ["net", "ends"],
        "accepts_ends": ["net", "ends", "value"],
    },
    shares: {
        "greatest_share": ["net", "wishes"], "share_evidence": ["net", "wishes"],
        "accepts_share": ["net", "wishes", "value"], "least_quotient": ["net", "wishes"],
    },
    rooms: {
        "room_between": ["net", "wishes", "one", "other"], "room_tree": ["net", "wishes"],
        "room_for": ["net", "wishes", "one", "other"], "wish_room": ["net", "wishes", "number"],
        "road_room": ["net", "wishes", "road"], "wish_evidence": ["net", "wishes", "number"],
        "road_evidence": ["net", "wishes", "road"], "accepts_wish": ["net", "wishes", "number", "value"],
        "accepts_road": ["net", "wishes", "road", "value"], "go_together": ["net", "wishes", "indexes"],
        "clashes": ["net", "wishes"], "sure_wishes": ["net", "wishes"], "given_up": ["net", "wishes"],
        "clash_evidence": ["net", "wishes", "indexes"], "accepts_clash": ["net", "wishes", "indexes", "value"],
    },
    scanning: {"scan": ["text"]},
    reading: {
        "next_tokens": ["text", "kind"], "read_task": ["text"], "read_ways": ["net", "wishes", "text"],
    },
    writing: {"task_text": ["net", "wishes"], "ways_text": ["net", "wishes", "ways"]},
    journals: {"replayed": ["net", "journal"], "are_right": ["net", "records"]},
}

# The methods of a desk, each with its arguments behind the desk itself.
METHODS = {
    "__init__": ["net"], "act": ["command"], "undo": [], "net": [], "wishes": [], "word": [], "evidence": [],
    "least_room": [], "journal": [], "records": [], "twin": [],
}

CLASSES = {"WishError": None, "BadValue": ["name"], "TooLarge": ["what"], "NotPossible": ["why"],
           "TextError": ["column", "words"]}

# The examples of each section, and how many there are.
EXAMPLES = ((examples.MADE, 10), (examples.TABLES, 11), (examples.PAIRS, 8), (examples.SHAPES, 7),
            (examples.MEETING, 7), (examples.AGAINST, 8), (examples.LENGTHS, 9), (examples.ENDS, 6),
            (examples.SHARES, 7), (examples.ROOMS, 10), (examples.TEXTS, 8), (examples.DESKS, 7))


class TestInterface(unittest.TestCase):
    def test_functions(self):
        for module, functions in LISTED.items():
            for name, arguments in functions.items():
                function = getattr(module, name)
                self.assertTrue(inspect.isfunction(function))
                self.assertEqual(function.__module__, module.__name__)
                self.assertEqual(list(inspect.signature(function).parameters), arguments)

    def test_arguments_by_name(self):
        ring, across = (4, ((0, 1, 1), (0, 3, 1), (1, 2, 1), (2, 3, 1))), ((0, 2, 1), (1, 3, 1))
        self.assertEqual(nets.room(net=ring, wishes=across, fence=(1,)), 1)
        self.assertEqual(nets.fence_of(net=ring, some=(0,)), (1, 2, 3))
        self.assertEqual(made.put_together(net=ring, wishes=(), one=0, other=2)[0], (3, ((0, 1, 2), (0, 2, 2))))
        self.assertIs(single.accepts_amount(net=ring, one=0, other=2, amount=0, value=("ways", ())), True)
        self.assertIs(tables.accepts_numbers(points=2, numbers=((0, 1, 0),), value=("roads", ())), True)
        self.assertIs(pairs.go_together(net=ring, pair=(0, 2), other=(1, 3), amounts=(1, 1)), True)
        self.assertEqual(pairs.most_beside(net=ring, pair=(0, 2), other=(1, 3), amount=1), 1)
        self.assertEqual(shapes.may_join(shape=(), points=2), ((0, 1),))
        self.assertEqual(meeting.taken(net=ring, wishes=across, wish=0, path=(0, 1, 2), amount=1)[1], across[1:])
        self.assertEqual(lengths.need(net=ring, wishes=(), lengths=(0, 0, 0, 0), rises=()), 0)
        self.assertEqual(lengths.rise_from(net=ring, lengths=(1, 2, 3, 4), point=0), (0, 1, 4, 2))
        both = ((0, 1), (0, 2), (1, 2), (3, 4))
        told = against.net_against(shape=both)
        self.assertEqual(against.multiplied(shape=both, value=told, factor=1), told)
        self.assertEqual(ends.reach(net=ring, ends=(0, 2), end=0), (2, (1, 2)))
        self.assertIs(shares.accepts_share(net=ring, wishes=across, value=None), False)
        self.assertEqual(rooms.room_between(net=ring, wishes=across, one=0, other=2), 0)
        self.assertIs(rooms.accepts_wish(net=ring, wishes=across, number=0, value=None), False)
        self.assertEqual(rooms.road_room(net=ring, wishes=across, road=0), 0)
        self.assertIs(rooms.go_together(net=ring, wishes=across, indexes=(0, 1)), True)
        self.assertEqual(scanning.scan(text=""), [("end", "", 1)])
        self.assertEqual(reading.next_tokens(text="", kind="task"), ["a number"])
        self.assertEqual(reading.read_ways(net=ring, wishes=across, text=""), ())
        self.assertEqual(writing.ways_text(net=ring, wishes=across, ways=()), "")
        self.assertEqual(desk.Desk(net=ring).act(command=("wish", 0, 2, 1)), "ways")
        self.assertEqual(journals.replayed(net=ring, journal=()).net(), ring)
        self.assertIs(journals.are_right(net=ring, records=()), True)

    def test_methods_stand_in_the_class_itself(self):
        self.assertEqual(desk.Desk.__module__, "wishshapes.desk")
        for name, arguments in METHODS.items():
            method = vars(desk.Desk)[name]
            self.assertTrue(inspect.isfunction(method))
            self.assertEqual(list(inspect.signature(method).parameters), ["self", *arguments])

    def test_classes(self):
        for name, arguments in CLASSES.items():
            found = getattr(errors, name)
            self.assertEqual(found.__module__, "wishshapes.errors")
            if arguments is not None:
                self.assertIn("__init__", vars(found))
                self.assertEqual(list(inspect.signature(found).parameters), arguments)

    def test_examples(self):
        for text, many in EXAMPLES:
            test = doctest.DocTestParser().get_doctest(text, {}, "examples", None, 0)
            runner = doctest.DocTestRunner()
            runner.run(test)
            self.assertEqual((runner.failures, runner.tries), (0, many))


    def test_examples_of_the_readme(self):
        readme = Path(__file__).resolve().parent.parent / "README.md"
        # What stands behind an example ends with the block, not with an answer.
        text = readme.read_text(encoding="utf-8").replace("```", "")
        test = doctest.DocTestParser().get_doctest(text, {}, "README.md", None, 0)
        runner = doctest.DocTestRunner()
        runner.run(test)
        self.assertEqual(runner.failures, 0)
        self.assertGreater(runner.tries, 30)


class TestPoint21(unittest.TestCase):
    def test_ring_of_four_points(self):
        ring, across = (4, ((0, 1, 1), (0, 3, 1), (1, 2, 1), (2, 3, 1))), ((0, 2, 1), (1, 3, 1))
        for fence in nets.fences(ring):
            if len(fence) in (1, 3):
                self.assertEqual(nets.room(ring, across, fence), 1)
        self.assertEqual([nets.room(ring, across, fence) for fence in ((1, 2), (2, 3))], [0, 0])
        self.assertEqual(nets.tight_fences(ring, across), [(1, 2), (2, 3)])
        self.assertEqual((nets.width(ring, (1, 3)), nets.load(ring, across, (1, 3))), (4, 0))
        self.assertEqual(nets.odd_points(ring, across), (0, 1, 2, 3))


if __name__ == "__main__":
    unittest.main()
