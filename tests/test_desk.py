"""Points 135 to 147: desks, their commands, words and journals."""

import random
import unittest
from itertools import combinations

from judges import are_right_ways
from models import Model, some_command, some_desks
from samples import ACROSS, FULL, ODD_KINDS, RING
from small import FIVE, TRIANGLE, against_tasks, good_tasks, other_tasks, room_of, some_net
from wishshapes.desk import Desk
from wishshapes.errors import BadValue, NotPossible, TooLarge
from wishshapes.journals import are_right, replayed
from wishshapes.lengths import accepts_evidence, told_evidence

NINE = (6, tuple((one, other, 1) for one, other in list(combinations(range(6), 2))[:9]))
BUSY = tuple(("wish", 0, 2, 1 + step % 2) for step in range(20))


def desk_for(net, wishes):
    """Return a desk with the net and these wishes."""
    desk = Desk(net)
    for wish in wishes:
        desk.act(("wish", *wish))
    return desk


def seen(desk):
    """Return all that the desk tells."""
    return (desk.net(), desk.wishes(), desk.word(), desk.evidence(), desk.least_room(), desk.journal(), desk.records())


class DeskCase(unittest.TestCase):
    def raises(self, kind, attribute, word, function, *arguments):
        with self.subTest(arguments=arguments):
            with self.assertRaises(kind) as caught:
                function(*arguments)
            self.assertEqual(getattr(caught.exception, attribute), word)

    def refuses(self, desk, kind, attribute, word, command):
        """See that the command is refused and changes nothing."""
        before = seen(desk)
        self.raises(kind, attribute, word, desk.act, command)
        self.assertEqual(seen(desk), before)

    def is_like(self, desk, model):
        """See that the desk tells what the model does, with evidence that is right."""
        net, wishes = model.net(), model.wishes()
        self.assertEqual((desk.net(), desk.wishes(), desk.journal()), (net, wishes, tuple(model.commands)))
        self.assertEqual(desk.least_room(), model.least_room())
        evidence, weak = desk.evidence(), model.weak()
        self.assertEqual(desk.word(), evidence[0])
        self.assertEqual(evidence[0] == "fence", bool(weak))
        if weak:
            self.assertEqual(evidence, ("fence", weak[0]))
        elif evidence[0] == "ways":
            self.assertTrue(are_right_ways(net, wishes, evidence[1]))
        self.assertIn(evidence[0], ("fence", "ways", "lengths"))
        self.assertIs(accepts_evidence(net, wishes, evidence), True)


class TestNewDesks(DeskCase):
    def test_a_new_desk(self):
        for net in (RING, NINE, (2, ()), (6, ()), FIVE):
            desk = Desk(net)
            self.is_like(desk, Model(net))
            self.assertEqual((desk.wishes(), desk.word(), desk.evidence(), desk.journal(), desk.records()),
                             ((), "ways", ("ways", ()), (), ()))
            self.assertIs(desk.undo(), None)
            self.is_like(desk, Model(net))

    def test_errors(self):
        for net in ((7, ()), FULL, (6, NINE[1] + ((3, 4, 1),)), (7, ((0, 1, 1),))):
            self.raises(TooLarge, "what", "net", Desk, net)
        for net in ((8, ()), (1, ()), list(RING), (7, []), (4, ((1, 0, 1),)), (4, ((0, 1, True),)), *ODD_KINDS):
            self.raises(BadValue, "name", "net", Desk, net)


class TestCommands(DeskCase):
    def test_example(self):
        desk = Desk(RING)
        words = [desk.act(("wish", 0, 2, 1)), desk.act(("wish", 1, 3, 1)), desk.act(("wish", 0, 1, 1))]
        self.assertEqual((words, desk.evidence(), desk.least_room()),
                         (["ways", "ways", "fence"], ("fence", (1, 2)), -1))
        self.assertEqual((desk.act(("road", 0, 1, 2)), desk.least_room(), desk.undo(), desk.word(), desk.wishes()),
                         ("ways", 0, ("road", 0, 1, 2), "fence", ((0, 1, 1), (0, 2, 1), (1, 3, 1))))

    def test_point_147(self):
        desk = desk_for(RING, ACROSS)
        self.assertEqual(desk.word(), "ways")
        self.assertTrue(all(amount == (1, 2) for _, _, amount in desk.evidence()[1]))
        self.assertEqual(desk.act(("wish", 0, 1, 1)), "fence")
        net, wishes = desk.net(), desk.wishes()
        self.assertEqual((room_of(net, (), (1, 2)), -room_of((4, ()), wishes, (1, 2))), (2, 3))
        self.assertEqual(desk.act(("road", 0, 1, 2)), "ways")

    def test_drawn_commands(self):
        chance, words = random.Random(151), {"fence": 0, "ways": 0, "same": 0, "many": 0}
        for number in range(40):
            net = some_net(2 + number % 5, chance)
            desk, model = Desk(net), Model(net)
            for _ in range(40):
                command = some_command(net[0], chance)
                why = model.refused(command)
                if why is not None:
                    self.refuses(desk, NotPossible, "why", why, command)
                    words[why] += 1
                elif len(model.commands) == 20:
                    self.refuses(desk, TooLarge, "what", "commands", command)
                else:
                    model.act(command)
                    self.assertEqual(desk.act(command), desk.word())
                    words[desk.word()] = words.get(desk.word(), 0) + 1
                if chance.random() < 0.2 and model.commands:
                    self.assertEqual(desk.undo(), model.undo())
                self.is_like(desk, model)
        self.assertTrue(min(words.values()) > 10, words)

    def test_roads_and_wishes_put_in_changed_and_taken_out(self):
        desk = Desk((3, ((0, 1, 2),)))
        for command, roads, wishes in (
                (("road", 1, 2, 3), ((0, 1, 2), (1, 2, 3)), ()),
                (("wish", 0, 2, 2), ((0, 1, 2), (1, 2, 3)), ((0, 2, 2),)),
                (("road", 0, 1, 6), ((0, 1, 6), (1, 2, 3)), ((0, 2, 2),)),
                (("wish", 0, 2, 1), ((0, 1, 6), (1, 2, 3)), ((0, 2, 1),)),
                (("wish", 0, 1, 6), ((0, 1, 6), (1, 2, 3)), ((0, 1, 6), (0, 2, 1))),
                (("road", 0, 1, 0), ((1, 2, 3),), ((0, 1, 6), (0, 2, 1))),
                (("wish", 0, 1, 0), ((1, 2, 3),), ((0, 2, 1),)),
                (("wish", 0, 2, 0), ((1, 2, 3),), ()), (("road", 1, 2, 0), (), ()),
                (("road", 0, 2, 1), ((0, 2, 1),), ())):
            desk.act(command)
            self.assertEqual((desk.net(), desk.wishes()), ((3, roads), wishes))

    def test_same(self):
        desk = desk_for(RING, ACROSS)
        for command in (("road", 0, 2, 0), ("road", 0, 1, 1), ("wish", 0, 2, 1), ("wish", 0, 1, 0), ("wish", 2, 3, 0)):
            self.refuses(desk, NotPossible, "why", "same", command)

    def test_many(self):
        desk = Desk(NINE)
        self.refuses(desk, NotPossible, "why", "many", ("road", 2, 5, 1))
        self.refuses(desk, NotPossible, "why", "same", ("road", 2, 5, 0))
        self.assertEqual(desk.act(("road", 0, 1, 2)), "ways")
        self.assertEqual(desk.act(("road", 0, 1, 0)), "ways")
        self.assertEqual(desk.act(("road", 2, 5, 1)), "ways")
        self.refuses(desk, NotPossible, "why", "many", ("road", 0, 1, 1))
        for other in range(1, 6):
            desk.act(("wish", 0, other, 1))
        self.refuses(desk, NotPossible, "why", "many", ("wish", 1, 2, 1))
        self.refuses(desk, NotPossible, "why", "same", ("wish", 1, 2, 0))
        self.refuses(desk, NotPossible, "why", "same", ("wish", 0, 1, 1))
        desk.act(("wish", 0, 1, 2))
        desk.act(("wish", 0, 1, 0))
        desk.act(("wish", 1, 2, 1))
        self.refuses(desk, NotPossible, "why", "many", ("wish", 0, 1, 1))

    def test_twenty_commands(self):
        desk = Desk(RING)
        for at, command in enumerate(BUSY):
            self.assertEqual(len(desk.journal()), at)
            desk.act(command)
        self.assertEqual(desk.journal(), BUSY)
        self.assertEqual(len(desk.records()), 20)
        self.refuses(desk, TooLarge, "what", "commands", ("wish", 0, 2, 1))
        self.refuses(desk, TooLarge, "what", "commands", ("road", 0, 1, 0))
        self.refuses(desk, NotPossible, "why", "same", ("wish", 0, 2, 2))
        self.refuses(desk, BadValue, "name", "command", ("wish", 0, 2, 7))
        self.assertEqual(desk.undo(), BUSY[-1])
        desk.act(("road", 0, 1, 0))
        self.refuses(desk, TooLarge, "what", "commands", ("road", 0, 1, 1))

    def test_many_comes_ahead_of_twenty_commands(self):
        desk = Desk(NINE)
        for step in range(20):
            desk.act(("road", 0, 1, 2 + step % 2))
        self.refuses(desk, NotPossible, "why", "many", ("road", 2, 5, 1))
        self.refuses(desk, NotPossible, "why", "same", ("road", 2, 5, 0))
        self.refuses(desk, TooLarge, "what", "commands", ("road", 0, 1, 1))

    def test_what_is_no_command(self):
        desk = desk_for(RING, ACROSS)
        right = ("wish", 0, 1, 1)
        wrong = [("road", 0, 4, 1), ("road", -1, 1, 1), ("road", 1, 0, 1), ("road", 1, 1, 1), ("road", 0, 1, 7),
                 ("road", 0, 1, -1), ("Road", 0, 1, 2), ("roads", 0, 1, 2), ("", 0, 1, 2), ("fence", 0, 1, 2),
                 (b"road", 0, 1, 2), (("road",), 0, 1, 2), ("road", 0, 1), ("road", 0, 1, 2, 3), ("road", (0, 1), 2),
                 ("wish", True, 2, 1), ("wish", False, 1, 1), ("wish", 0, True, 1), ("wish", 0, 1, True),
                 ("wish", 0, 1, False), ("wish", 0, 1, 1.0), ("wish", 0.0, 1, 1), ("wish", 0, 1, "1"),
                 ("wish", 0, 1, None),
                 list(right), (), right[1:], (right,), "wish"]
        for kind in ODD_KINDS:
            wrong += [kind, (kind, *right[1:]), ("wish", kind, 1, 1), ("wish", 0, kind, 1), ("wish", 0, 1, kind)]
        for command in wrong:
            self.refuses(desk, BadValue, "name", "command", command)
        self.refuses(Desk((2, ())), BadValue, "name", "command", ("road", 0, 2, 1))
        desk.act(right)

    def test_undo(self):
        for net, commands in some_desks(20, 152):
            desk, states = Desk(net), []
            for command in commands:
                states.append(seen(desk))
                desk.act(command)
            for command in commands[::-1]:
                self.assertEqual(desk.undo(), command)
                self.assertEqual(seen(desk), states.pop())
            self.assertIs(desk.undo(), None)
            self.assertEqual(seen(desk), seen(Desk(net)))
            for command in commands:
                desk.act(command)
            self.assertEqual(seen(desk), seen(replayed(net, commands)))


class TestWords(DeskCase):
    def test_lengths(self):
        desk = desk_for(FIVE, TRIANGLE)
        self.assertEqual((desk.word(), desk.least_room()), ("lengths", 0))
        self.assertIs(accepts_evidence(FIVE, TRIANGLE, desk.evidence()), True)
        for net, wishes in against_tasks():
            desk = desk_for(net, wishes)
            self.assertEqual(desk.word(), "lengths")
            self.assertIs(accepts_evidence(net, wishes, desk.evidence()), True)

    def test_the_told_evidence(self):
        for net, wishes in other_tasks(40, 153) + good_tasks(30, 154):
            if len(wishes) <= 5:
                desk = desk_for(net, wishes)
                self.assertEqual(desk.evidence(), told_evidence(net, wishes))

    def test_the_word_depends_on_the_present_alone(self):
        chance = random.Random(155)
        for net, wishes in other_tasks(30, 156) + against_tasks():
            commands = [("wish", *wish) for wish in wishes] + [("road", *road) for road in net[1]]
            chance.shuffle(commands)
            desk = Desk((net[0], ()))
            for command in commands:
                desk.act(command)
            self.assertEqual((desk.net(), desk.wishes()), (net, wishes))
            self.assertEqual((desk.word(), desk.evidence()),
                             (told_evidence(net, wishes)[0], told_evidence(net, wishes)))

    def test_what_stays_behind_a_command(self):
        chance, many = random.Random(157), {"ways": 0, "fence": 0}
        for net, wishes in other_tasks(60, 158) + good_tasks(40, 159):
            if len(wishes) > 5:
                continue
            desk = desk_for(net, wishes)
            for _ in range(24):
                word, evidence, twin = desk.word(), desk.evidence(), desk.twin()
                command = some_command(net[0], chance)
                old = dict((link[:2], link[2]) for link in (net[1] if command[0] == "road" else wishes))
                step = command[3] - old.get(command[1:3], 0)
                try:
                    twin.act(command)
                except NotPossible:
                    continue
                helps = (step > 0) == (command[0] == "road")
                if word == "ways" and helps:
                    self.assertEqual(twin.word(), "ways")
                    many["ways"] += 1
                if word == "fence" and not helps:
                    self.assertEqual(twin.word(), "fence")
                    self.assertLess(room_of(twin.net(), twin.wishes(), evidence[1]), 0)
                    self.assertIs(accepts_evidence(twin.net(), twin.wishes(), evidence), True)
                    many["fence"] += 1
                less, more = sorted((desk.least_room(), twin.least_room()))
                self.assertLessEqual(more - less, abs(step))
                self.assertEqual(twin.least_room(), more if helps else less)
        self.assertTrue(min(many.values()) > 20, many)

    def test_a_road_and_a_wish_greater_by_the_same(self):
        chance, many = random.Random(160), 0
        for net, wishes in other_tasks(60, 161) + good_tasks(40, 162):
            if len(wishes) > 4 or len(net[1]) > 8:
                continue
            desk = desk_for(net, wishes)
            for one, other in combinations(range(net[0]), 2):
                width = dict((road[:2], road[2]) for road in net[1]).get((one, other), 0)
                amount = dict((wish[:2], wish[2]) for wish in wishes).get((one, other), 0)
                if max(width, amount) < 6:
                    step = chance.randint(1, 6 - max(width, amount))
                    twin = desk.twin()
                    twin.act(("road", one, other, width + step))
                    twin.act(("wish", one, other, amount + step))
                    self.assertEqual(twin.least_room(), desk.least_room())
                    if desk.word() == "ways":
                        self.assertEqual(twin.word(), "ways")
                        many += 1
        self.assertGreater(many, 50)

    def test_put_in_and_taken_out(self):
        for net, wishes in other_tasks(40, 163):
            desk = desk_for(net, wishes)
            for word, links, most in (("wish", wishes, 5), ("road", net[1], 9)):
                for one, other in combinations(range(net[0]), 2):
                    if (one, other) not in [link[:2] for link in links] and len(links) < most:
                        before, twin = seen(desk), desk.twin()
                        twin.act((word, one, other, 2))
                        twin.act((word, one, other, 0))
                        self.assertEqual(seen(twin)[:5], before[:5])
                        self.assertEqual(twin.journal(), before[5] + ((word, one, other, 2), (word, one, other, 0)))


class TestRecords(DeskCase):
    def test_records(self):
        for net, commands in some_desks():
            desk = Desk(net)
            wanted = []
            for command in commands:
                desk.act(command)
                wanted.append((command, desk.evidence()))
            self.assertEqual(desk.records(), tuple(wanted))
            self.assertIs(are_right(net, desk.records()), True)
            self.assertEqual(tuple(command for command, _ in desk.records()), desk.journal())

    def test_forms(self):
        desk = desk_for(RING, ACROSS)
        for value in (desk.net(), desk.wishes(), desk.evidence(), desk.journal(), desk.records(), desk.undo()):
            self.assertIs(type(value), tuple)
        self.assertIs(type(desk.least_room()), int)
        self.assertIs(type(desk.word()), str)
        self.assertIs(type(desk.twin()), Desk)


class TestTwins(DeskCase):
    def test_twins_do_not_change_each_other(self):
        chance = random.Random(164)
        for net, commands in some_desks(30, 165):
            desk = replayed(net, commands)
            twin, again = desk.twin(), desk.twin()
            self.assertEqual(seen(twin), seen(desk))
            before = seen(desk)
            for _ in range(4):
                try:
                    twin.act(some_command(net[0], chance))
                except (NotPossible, TooLarge):
                    twin.undo()
            self.assertEqual((seen(desk), seen(again)), (before, before))
            kept = seen(twin)
            while desk.undo() is not None:
                pass
            self.assertEqual((seen(twin), seen(again)), (kept, before))
            self.assertEqual(seen(desk), seen(Desk(net)))
            while again.undo() is not None:
                pass
            self.assertEqual(seen(again), seen(desk))

    def test_a_twin_of_a_twin(self):
        desk = desk_for(RING, ACROSS)
        other = desk.twin().twin()
        desk.undo()
        self.assertEqual(other.journal(), (("wish", 0, 2, 1), ("wish", 1, 3, 1)))
        self.assertEqual(other.undo(), ("wish", 1, 3, 1))
        self.assertEqual(seen(other), seen(desk))

    def test_replayed_desks_do_not_change_each_other(self):
        journal = (("wish", 0, 2, 1), ("road", 0, 1, 0))
        first, second = replayed(RING, journal), replayed(RING, journal)
        first.undo()
        self.assertEqual((second.journal(), second.word()), (journal, "ways"))
        self.assertEqual(first.journal(), journal[:1])

    def test_desks_with_the_same_net(self):
        first, second = Desk(RING), Desk(RING)
        first.act(("road", 0, 1, 0))
        self.assertEqual((second.net(), second.journal()), (RING, ()))
        self.assertEqual(Desk(RING).net(), RING)
        self.assertEqual(RING[1][0], (0, 1, 1))

    def test_equal_desks_tell_the_same(self):
        for net, commands in some_desks(20, 166):
            again = (net[0], tuple(tuple(list(road)) for road in net[1]))
            self.assertEqual(seen(replayed(net, commands)),
                             seen(replayed(again, tuple(tuple(list(c)) for c in commands))))


if __name__ == "__main__":
    unittest.main()
