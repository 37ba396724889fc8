"""A desk kept in the tests: its net and wishes as dicts, and what each command does to them."""

import random

from small import room_of, some_net, weak_of
from samples import masks


class Model:
    """The state of a desk, worked out apart from the program."""

    def __init__(self, net):
        self.points = net[0]
        self.links = {"road": {road[:2]: road[2] for road in net[1]}, "wish": {}}
        self.commands = []
        self.states = []

    def refused(self, command):
        """Return the word that tells why the command is not possible, or None."""
        word, one, other, number = command
        links = self.links[word]
        if links.get((one, other), 0) == number:
            return "same"
        return "many" if (one, other) not in links and len(links) == {"road": 9, "wish": 5}[word] else None

    def act(self, command):
        """Carry out a command that is possible."""
        word, one, other, number = command
        self.states.append({kind: dict(links) for kind, links in self.links.items()})
        self.links[word][one, other] = number
        if number == 0:
            del self.links[word][one, other]
        self.commands.append(command)

    def undo(self):
        """Go back to what was before the last command."""
        self.links = self.states.pop()
        return self.commands.pop()

    def net(self):
        """Return the present net."""
        return self.points, tuple((*pair, number) for pair, number in sorted(self.links["road"].items()))

    def wishes(self):
        """Return the present wishes."""
        return tuple((*pair, number) for pair, number in sorted(self.links["wish"].items()))

    def weak(self):
        """Return all fences that are too weak, in order."""
        return weak_of(self.net(), self.wishes())

    def least_room(self):
        """Return the least room of all fences."""
        return min(room_of(self.net(), self.wishes(), fence) for fence in masks(self.points))


def some_command(points, chance):
    """Return some command for a net of so many points; it need not be possible."""
    one, other = sorted(chance.sample(range(points), 2))
    return chance.choice(("road", "wish", "wish")), one, other, chance.choice((0, 0, 1, 1, 1, 2, 2, 3, 4, 5, 6))


def some_desks(many=40, seed=150):
    """Return pairs of a first net and up to 20 commands that are possible one after another."""
    chance, found = random.Random(seed), []
    while len(found) < many:
        net = some_net(2 + len(found) % 5, chance)
        model = Model(net)
        for _ in range(chance.choice((0, 5, 30, 60))):
            command = some_command(net[0], chance)
            if model.refused(command) is None and len(model.commands) < 20:
                model.act(command)
        found.append((net, tuple(model.commands)))
    return found
