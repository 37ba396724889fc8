"""Points 137 and 140 to 146: desks replayed from journals, and records that are right."""

import random
import unittest
from fractions import Fraction

from changes import doubled, form_of, in_other_forms, put, shortened, shuffled
from models import some_desks
from samples import ACROSS, FULL, ODD_KINDS, RING, masks
from small import FIVE, TRIANGLE, room_of
from wishshapes.desk import Desk
from wishshapes.errors import BadValue, NotPossible, TooLarge
from wishshapes.journals import are_right, replayed
from wishshapes.lengths import accepts_evidence, lengths_of

ONES = (1, 1, 1, 1, 1, 1)
RISES = ((0, 2, 2, 1, 1), (0, 2, 2, 1, 1), (2, 0, 2, 1, 1), (1, 1, 1, 0, 2))
NINE = (6, tuple((one, other, 1) for one in range(3) for other in range(3, 6)))
ONE_RECORD = ((("wish", 0, 2, 1), ("ways", ((0, (0, 1, 2), (1, 1)),))),)
BUSY = tuple(("wish", 0, 2, 1 + step % 2) for step in range(21))


def states_of(net, commands):
    """Return the nets and wishes behind each of the commands."""
    desk, found = Desk(net), []
    for command in commands:
        desk.act(command)
        found.append((desk.net(), desk.wishes()))
    return found


class TestReplayed(unittest.TestCase):
    def raises(self, kind, attribute, word, *arguments):
        with self.subTest(arguments=arguments):
            with self.assertRaises(kind) as caught:
                replayed(*arguments)
            self.assertEqual(getattr(caught.exception, attribute), word)

    def test_example(self):
        desk = replayed(RING, (("wish", 0, 2, 1), ("road", 0, 1, 0)))
        self.assertEqual((desk.word(), desk.net()[1], desk.wishes()), ("ways", RING[1][1:], ACROSS[:1]))
        self.assertIs(type(desk), Desk)

    def test_drawn_journals(self):
        for net, commands in some_desks():
            desk = Desk(net)
            for command in commands:
                desk.act(command)
            found = replayed(net, commands)
            self.assertEqual((found.net(), found.wishes(), found.journal(), found.records(), found.word()),
                             (desk.net(), desk.wishes(), desk.journal(), desk.records(), desk.word()))

    def test_the_journal_of_a_desk_replayed(self):
        for net, commands in some_desks(20, 171):
            desk = replayed(net, commands)
            self.assertEqual(replayed(net, desk.journal()).records(), desk.records())

    def test_an_empty_journal(self):
        self.assertEqual((replayed(RING, ()).net(), replayed(RING, ()).journal()), (RING, ()))

    def test_as_many_commands_as_are_let(self):
        self.assertEqual(replayed(RING, BUSY[:20]).journal(), BUSY[:20])
        self.raises(BadValue, "name", "journal", RING, BUSY)
        self.raises(BadValue, "name", "journal", RING, ((),) * 21)

    def test_what_is_no_journal(self):
        for journal in ([], list(BUSY[:2]), BUSY[0], (list(BUSY[0]),), (BUSY[0], None), "wish", None, {}, set(), 3,
                        ("wish",), (BUSY[0], "wish"), (0,), (BUSY[0], 0)):
            self.raises(BadValue, "name", "journal", RING, journal)
            self.raises(BadValue, "name", "journal", (7, ()), journal)
            self.raises(BadValue, "name", "net", (8, ()), journal)

    def test_too_large_nets(self):
        for net in ((7, ()), FULL, (6, NINE[1] + ((0, 1, 1),))):
            ordered = (net[0], tuple(sorted(net[1])))
            self.raises(TooLarge, "what", "net", ordered, ())
            self.raises(TooLarge, "what", "net", ordered, (("nothing",),))
            self.raises(BadValue, "name", "journal", ordered, (("wish", 0, 1, 1), None))

    def test_what_its_commands_raise(self):
        right = ("wish", 0, 2, 1)
        self.raises(BadValue, "name", "command", RING, ((),))
        self.raises(BadValue, "name", "command", RING, (right, ("wish", 0, 4, 1)))
        self.raises(BadValue, "name", "command", RING, (right, ("wish", 0, 1, 7), right))
        self.raises(NotPossible, "why", "same", RING, (right, right))
        self.raises(NotPossible, "why", "same", RING, (right, ("road", 0, 2, 0), ()))
        self.raises(NotPossible, "why", "same", RING, (right, ("wish", 0, 1, 0)))
        self.raises(BadValue, "name", "command", RING, (right, (), right, right))
        self.raises(NotPossible, "why", "many", NINE, (right, ("road", 0, 1, 1), right))
        six = tuple(("wish", 0, other, 1) for other in range(1, 6))
        self.raises(NotPossible, "why", "many", NINE, six + (("wish", 1, 2, 1),))
        for kind in ODD_KINDS:
            if type(kind) is tuple and all(type(item) is tuple for item in kind):
                self.raises(BadValue, "name", "command", RING, kind)
            self.raises(BadValue, "name", "command", RING, (right, (kind, 0, 1, 1)))


class TestRight(unittest.TestCase):
    def right(self, records, wanted, net=RING):
        with self.subTest(records=records):
            self.assertIs(are_right(net, records), wanted)

    def test_examples(self):
        self.right(ONE_RECORD, True)
        self.right((), True)

    def test_records_of_desks(self):
        words = set()
        for net, commands in some_desks():
            records = replayed(net, commands).records()
            words |= {evidence[0] for _, evidence in records}
            self.right(records, True, net)
            for end in range(len(records)):
                self.right(records[:end], True, net)
        self.assertTrue({"ways", "fence"} <= words)

    def test_lengths(self):
        commands = tuple(("wish", *wish) for wish in TRIANGLE)
        records = replayed(FIVE, commands).records()
        self.assertEqual([evidence[0] for _, evidence in records], ["ways", "ways", "ways", "lengths"])
        self.right(records, True, FIVE)
        self.right(put(records, (3, 1), ("lengths", ONES, RISES)), True, FIVE)
        self.right(put(records, (3, 1), ("lengths", ONES, RISES[:3])), False, FIVE)
        self.right(put(records, (2, 1), ("lengths", ONES, RISES[:3])), False, FIVE)
        for fence in masks(5):
            self.right(put(records, (3, 1), ("fence", fence)), False, FIVE)

    def test_any_other_evidence_that_is_accepted(self):
        others = 0
        for net, commands in some_desks(25, 172):
            records, states = replayed(net, commands).records(), states_of(net, commands)
            for at, (behind, wishes) in enumerate(states):
                for fence in masks(net[0]):
                    for value in (("fence", fence), ("lengths", *lengths_of(behind, wishes, fence))):
                        wanted = room_of(behind, wishes, fence) < 0
                        self.right(put(records, (at, 1), value), wanted, net)
                        others += wanted
        self.assertGreater(others, 200)

    def test_lengths_where_a_fence_is_too_weak(self):
        command, wishes = ("wish", 0, 2, 3), ((0, 2, 3),)
        for fence in masks(4):
            weak = room_of(RING, wishes, fence) < 0
            self.right(((command, ("lengths", *lengths_of(RING, wishes, fence))),), weak)
            self.right(((command, ("fence", fence)),), weak)
        self.right(((command, ("lengths", (1, 0, 0, 1), ((0, 1, 0, 0),))),), False)

    def test_any_ways_that_meet_the_wishes(self):
        for ways in (((0, (0, 3, 2), (1, 1)),), ((0, (0, 1, 2), (1, 3)), (0, (0, 3, 2), (2, 3))),
                     ((0, (0, 1, 2), (1, 4)),) * 4):
            self.right(put(ONE_RECORD, (0, 1, 1), ways), True)
        for ways in ((), ((0, (0, 1, 2), (1, 2)),), ((0, (0, 1, 2), (1, 1)),) * 2, ((1, (0, 1, 2), (1, 1)),),
                     ((0, (0, 1, 3, 2), (1, 1)),), ((0, (0, 1, 2), (2, 2)),)):
            self.right(put(ONE_RECORD, (0, 1, 1), ways), False)

    def test_commands_that_are_not_possible(self):
        ways = ONE_RECORD[0][1]
        self.right(ONE_RECORD * 2, False)
        for command in (("wish", 0, 2, 0), ("road", 0, 1, 1), ("road", 0, 2, 0), ("wish", 0, 4, 1), ("wish", 2, 0, 1),
                        ("wish", 0, 2, 7), ("Wish", 0, 2, 1), ("wish", 0, 2), ["wish", 0, 2, 1], ("wish", 0, 2, True),
                        (), None):
            self.right(((command, ways),), False)
            self.right(((command, ("ways", ())),), False)
            self.right(((command, ("fence", (1,))),), False)
        self.right(((("road", 0, 2, 1), ("ways", ())),), True)
        self.right(((("road", 0, 1, 1), ("ways", ())),), False, NINE)
        self.right(((("road", 0, 3, 2), ("ways", ())),), True, NINE)
        many = (("road", 0, 1, 2), ("ways", ())), (("road", 0, 2, 1), ("ways", ()))
        nine = (6, ((0, 1, 1), (0, 3, 1), (0, 4, 1), (1, 2, 1), (1, 3, 1), (2, 3, 1), (2, 4, 1), (3, 4, 1), (4, 5, 1)))
        self.right(many[:1], True, nine)
        self.right(many, False, nine)
        self.right((many[0], (("road", 0, 1, 0), ("ways", ())), many[1]), True, nine)

    def test_more_than_five_wishes(self):
        star = (6, tuple((0, other, 6) for other in range(1, 6)))
        records = tuple((("wish", 0, other, 1),
                         ("ways", tuple((index, (0, index + 1), (1, 1)) for index in range(other))))
                        for other in range(1, 6))
        self.right(records, True, star)
        more = records[4][1][1] + ((5, (1, 0, 2), (1, 1)),)
        self.assertIs(accepts_evidence(star, tuple((0, other, 1) for other in range(1, 6)) + ((1, 2, 1),),
                                       ("ways", more)), True)
        self.right(records + ((("wish", 1, 2, 1), ("ways", more)),), False, star)

    def test_records_left_out_doubled_or_in_another_sequence(self):
        left = sequences = 0
        for net, commands in some_desks(25, 173):
            records = replayed(net, commands).records()
            for other in doubled(records):
                self.right(other, False, net)
            for other in shortened(records)[:8] + shuffled(records):
                wanted = self.holds(net, other)
                self.right(other, wanted, net)
                left, sequences = left + (not wanted), sequences + wanted
        self.assertTrue(left > 20 and sequences > 20)

    def holds(self, net, records):
        """Tell, by a desk, whether one record after another holds."""
        desk = Desk(net)
        for command, evidence in records:
            try:
                desk.act(command)
            except NotPossible:
                return False
            if not accepts_evidence(desk.net(), desk.wishes(), evidence):
                return False
        return True

    def test_commands_changed(self):
        chance = random.Random(174)
        for net, commands in some_desks(25, 175):
            records = replayed(net, commands).records()
            for at, (command, _) in enumerate(records):
                word, one, other, number = command
                for new in (("road" if word == "wish" else "wish", one, other, number),
                            (word, one, other, (number + chance.randint(1, 6)) % 7)):
                    changed = put(records, (at, 0), new)
                    self.right(changed, self.holds(net, changed), net)

    def test_ways_changed(self):
        for net, commands in some_desks(25, 176):
            records = replayed(net, commands).records()
            for at, (_, evidence) in enumerate(records):
                if evidence[0] == "ways":
                    for ways in shortened(evidence[1]) + doubled(evidence[1]):
                        self.right(put(records, (at, 1, 1), ways), False, net)
                    for index, way in enumerate(evidence[1]):
                        more = Fraction(*way[2]) + Fraction(1, 2)
                        new = put(evidence[1], (index, 2), (more.numerator, more.denominator))
                        self.right(put(records, (at, 1, 1), new), False, net)
                self.right(put(records, (at, 1), None), False, net)

    def test_twenty_records_and_more(self):
        records = replayed(RING, BUSY[:20]).records()
        self.right(records, True)
        more = records + ((BUSY[20], records[0][1]),)
        self.assertIs(self.holds(RING, more[1:]), True)
        self.right(more, False)
        self.right(more[1:], True)

    def test_other_forms_and_kinds(self):
        wrong = [other for other in in_other_forms(ONE_RECORD) if form_of(other) != form_of(ONE_RECORD)]
        wrong += [ONE_RECORD[0], ONE_RECORD[0][0], (ONE_RECORD,), list(ONE_RECORD), *ODD_KINDS]
        for kind in ODD_KINDS:
            wrong += [(kind,), (*ONE_RECORD, kind), put(ONE_RECORD, (0, 0), kind), put(ONE_RECORD, (0, 1), kind),
                      put(ONE_RECORD, (0, 1, 0), kind), put(ONE_RECORD, (0, 1, 1), kind),
                      put(ONE_RECORD, (0, 0, 0), kind), put(ONE_RECORD, (0, 0, 3), kind)]
        wrong += [(record,) for record in shortened(ONE_RECORD[0]) + doubled(ONE_RECORD[0]) + [ONE_RECORD[0][::-1]]]
        for records in wrong:
            self.right(records, False)

    def test_errors(self):
        for net in ((7, ()), (6, tuple(sorted(NINE[1] + ((0, 1, 1),)))), FULL):
            for records in ((), ONE_RECORD, None):
                with self.assertRaises(TooLarge) as caught:
                    are_right(net, records)
                self.assertEqual(caught.exception.what, "net")
        for net in ((8, ()), list(RING), (7, []), None):
            with self.assertRaises(BadValue) as caught:
                are_right(net, ())
            self.assertEqual(caught.exception.name, "net")


if __name__ == "__main__":
    unittest.main()
