"""Good wishes: they are met if and only if no fence is too weak, by half ways or by whole ones."""

from wishshapes.errors import BadValue, NotPossible
from wishshapes.made import kept, raised, times
from wishshapes.nets import (are_some, crossing, fences, first_weak, is_number, is_parted, is_tuple, is_within,
                             is_word, need_small_net, need_wishes, room_left, sums_at)
from wishshapes.shapes import need_enough, shape_of
from wishshapes.ways import are_meeting, is_path, paths_between, reduced, steps


def need_path(net, wishes, wish, path):
    """Raise BadValue if the net, the wishes, the index of a wish or the path for it are wrong."""
    need_wishes(net, wishes)
    if not is_within(wish, 0, len(wishes) - 1):
        raise BadValue("wish")
    one, other, _ = wishes[wish]
    if not is_path(net, one, other, path):
        raise BadValue("path")


def need_good(net, wishes):
    """Raise the error that tells why these are no good wishes of a net that is small enough."""
    need_wishes(net, wishes)
    need_enough(shape_of(wishes))
    need_small_net(net)


def left_behind(roads, wishes, wish, path, amount):
    """Return the roads and the wishes behind an amount along a path; here a width or an amount may become 0."""
    return raised(roads, steps(path), -amount), raised(wishes, [wishes[wish][:2]], -amount)


def greatest_part(points, roads, wishes, wish, path):
    """Return the most along the path; here widths and amounts may be 0, and more than 6."""
    one, other, amount = wishes[wish]
    along = steps(path)
    part = min([road[2] for road in roads if road[:2] in along] + [amount])
    # Which fences there are depends on the points alone.
    for fence in fences((points, ())):
        room = crossing(roads, fence) - crossing(wishes, fence)
        if room < 0:
            return 0
        crossed = len([step for step in along if is_parted(fence, step[0], step[1])])
        fall = crossed - 1 if is_parted(fence, one, other) else crossed
        if fall > 0:
            part = min(part, room // fall)
    return part


def ways_of_good(net, wishes):
    """Return ways that meet good wishes for which no fence is too weak: whole ones if all points are even."""
    points, roads = net
    odd = any([total % 2 == 1 for total in sums_at(points, roads + wishes)])
    factor = 2 if odd else 1
    found, wide, asked = [], times(roads, factor), times(wishes, factor)
    # What is left stays even, so some path lets more be taken until no wish is left (point 62). As rooms never grow,
    # no path along which the most was taken lets more be taken later.
    for index, wish in enumerate(wishes):
        for path in paths_between(net, wish[0], wish[1]):
            part = greatest_part(points, wide, asked, index, path)
            if part > 0:
                found.append((index, path, reduced(part, factor)))
                wide, asked = left_behind(wide, asked, index, path, part)
    return tuple(found)


def taken(net, wishes, wish, path, amount):
    """Return the pair of the net and the wishes that are left behind the amount taken along the path."""
    need_path(net, wishes, wish, path)
    if not is_number(amount, 1):
        raise BadValue("amount")
    points, roads = net
    along = steps(path)
    if min([road[2] for road in roads if road[:2] in along]) < amount:
        raise NotPossible("road")
    if wishes[wish][2] < amount:
        raise NotPossible("wish")
    wide, asked = left_behind(roads, wishes, wish, path, amount)
    return (points, kept(wide)), kept(asked)


def most_along(net, wishes, wish, path):
    """Return the most along the path for the wish with this index."""
    need_path(net, wishes, wish, path)
    return greatest_part(net[0], net[1], wishes, wish, path)


def is_met(net, wishes):
    """Return True if some ways meet the good wishes, otherwise False."""
    need_good(net, wishes)
    return first_weak(net, wishes) is None


def meeting_evidence(net, wishes):
    """Return the told evidence about good wishes (point 64)."""
    need_good(net, wishes)
    weak = first_weak(net, wishes)
    if weak is not None:
        return "fence", weak
    return "ways", ways_of_good(net, wishes)


def accepts_meeting(net, wishes, value):
    """Return True if the value is evidence of either word about the wishes, good or not, otherwise False."""
    need_wishes(net, wishes)
    if not is_tuple(value, 2, 2):
        return False
    word, told = value
    if is_word(word, "ways"):
        return are_meeting(net, wishes, told)
    return is_word(word, "fence") and are_some(told, 1, net[0]) and room_left(net, wishes, told) < 0
