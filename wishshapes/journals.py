"""Journals: desks replayed from them, and records of commands with evidence that a judge accepts."""

from wishshapes.commands import MOST_COMMANDS, behind, is_command, refusal
from wishshapes.desk import Desk
from wishshapes.errors import BadValue
from wishshapes.lengths import accepts_evidence
from wishshapes.nets import is_tuple, need_net, need_small_net


def replayed(net, journal):
    """Return the desk that is replayed from the net and the journal."""
    need_net(net)
    if not is_tuple(journal, 0, MOST_COMMANDS) or not all([type(command) == tuple for command in journal]):
        raise BadValue("journal")
    desk = Desk(net)
    for command in journal:
        desk.act(command)
    return desk


def are_right(net, records):
    """Return True if the records are right for the net, otherwise False."""
    need_net(net)
    need_small_net(net)
    if not is_tuple(records, 0, MOST_COMMANDS):
        return False
    present, wishes = net, ()
    for record in records:
        if not is_tuple(record, 2, 2) or not is_command(present[0], record[0]):
            return False
        if refusal(present, wishes, record[0]) is not None:
            return False
        present, wishes = behind(present, wishes, record[0])
        if not accepts_evidence(present, wishes, record[1]):
            return False
    return True
