"""A desk: a net and wishes that commands change, with the evidence whether the wishes are met."""

from wishshapes.commands import MOST_COMMANDS, behind, is_command, refusal
from wishshapes.errors import BadValue, NotPossible, TooLarge
from wishshapes.lengths import told_evidence
from wishshapes.nets import fences, need_net, need_small_net, room_left


class Desk:
    """A net and wishes of it, and the journal of the commands that led to them."""

    def __init__(self, net):
        """Begin with the net that is handed in, and no wishes."""
        need_net(net)
        need_small_net(net)
        # A state is a net, its wishes and the evidence about them; behind each command there is a further one.
        self._states = [(net, (), told_evidence(net, ()))]
        self._commands = []

    def act(self, command):
        """Carry out the command; return the word behind it."""
        net, wishes, _ = self._states[-1]
        if not is_command(net[0], command):
            raise BadValue("command")
        why = refusal(net, wishes, command)
        if why is not None:
            raise NotPossible(why)
        if len(self._commands) == MOST_COMMANDS:
            raise TooLarge("commands")
        new_net, new_wishes = behind(net, wishes, command)
        self._states.append((new_net, new_wishes, told_evidence(new_net, new_wishes)))
        self._commands.append(command)
        return self.word()

    def undo(self):
        """Undo the last command; return it, or None if the journal is empty."""
        if not self._commands:
            return None
        self._states.pop()
        return self._commands.pop()

    def net(self):
        """Return the present net."""
        return self._states[-1][0]

    def wishes(self):
        """Return the present wishes."""
        return self._states[-1][1]

    def word(self):
        """Return the word: "fence", "ways" or "lengths"."""
        return self._states[-1][2][0]

    def evidence(self):
        """Return the told evidence about the present net and wishes."""
        return self._states[-1][2]

    def least_room(self):
        """Return the least room of the fences of the present net, for the present wishes."""
        net, wishes, _ = self._states[-1]
        return min([room_left(net, wishes, fence) for fence in fences(net)])

    def journal(self):
        """Return the tuple of the commands in the journal."""
        return tuple(self._commands)

    def records(self):
        """Return the tuple of the commands in the journal, each with the evidence behind it."""
        return tuple([(command, state[2]) for command, state in zip(self._commands, self._states[1:])])

    def twin(self):
        """Return a desk with the same first net and the same journal."""
        other = Desk(self._states[0][0])
        other._states = list(self._states)
        other._commands = list(self._commands)
        return other
