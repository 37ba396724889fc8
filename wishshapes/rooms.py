"""Room: how much more each wish may ask, how much narrower each road may be, and which wishes go together."""

from itertools import combinations

from wishshapes.errors import BadValue, NotPossible, TooLarge
from wishshapes.made import kept, raised
from wishshapes.meeting import ways_of_good
from wishshapes.nets import (MOST_WISHES, are_rising, are_some, crossing, fences, first_weak, is_number, is_parted,
                             is_tuple, is_within, need_small_net, need_two_points, need_wishes, room_left)
from wishshapes.parting import parting_fences
from wishshapes.shapes import need_enough, shape_of
from wishshapes.tables import in_turn
from wishshapes.ways import are_meeting

MOST_COMBINED = 8


def need_number(net, wishes, number):
    """Raise BadValue if the net or the wishes are wrong, or if the number is not the index of a wish."""
    need_wishes(net, wishes)
    if not is_within(number, 0, len(wishes) - 1):
        raise BadValue("number")


def need_road(net, wishes, road):
    """Raise BadValue if the net or the wishes are wrong, or if this is not the index of a road."""
    need_wishes(net, wishes)
    if not is_within(road, 0, len(net[1]) - 1):
        raise BadValue("road")


def need_indexes(net, wishes, indexes):
    """Raise BadValue if the net or the wishes are wrong, or if these are not ascending indexes of wishes."""
    need_wishes(net, wishes)
    if not is_tuple(indexes, 0, len(wishes)) or not are_rising(indexes, 0, len(wishes) - 1):
        raise BadValue("indexes")


def need_few_good(net, wishes):
    """Raise the error that tells why these are no good wishes all sets of which are looked at."""
    need_wishes(net, wishes)
    need_enough(shape_of(wishes))
    if len(wishes) > MOST_COMBINED:
        raise TooLarge("wishes")


def need_strong(net, wishes):
    """Raise NotPossible if some fence is too weak."""
    if first_weak(net, wishes) is not None:
        raise NotPossible("fence")


def roomiest(net, wishes, pair):
    """Return the room between the two points of the pair, and the first fence that they cross with this room."""
    return min([(room_left(net, wishes, fence), fence) for fence in parting_fences(net, [pair])])


def has_room(net, wishes, pair, room, value):
    """Tell whether the value is a fence that the pair crosses and that has just this room."""
    if not are_some(value, 1, net[0]) or not is_parted(value, pair[0], pair[1]):
        return False
    return room_left(net, wishes, value) == room


def with_narrower(net, road, step):
    """Return the net in which the road is narrower by the step; one that gets the width 0 is taken out."""
    return net[0], kept(raised(net[1], [net[1][road][:2]], -step))


def chosen(wishes, indexes):
    """Return the wishes with these indexes."""
    return tuple([wishes[index] for index in indexes])


def without_each(wishes):
    """Return the list of the wishes without one of them, for each one."""
    return [wishes[:index] + wishes[index + 1:] for index in range(len(wishes))]


def fence_rows(net, wishes):
    """Return for each fence the pair of its width and of the list of what each wish asks of it."""
    return [(crossing(net[1], fence), [crossing([wish], fence) for wish in wishes]) for fence in fences(net)]


def fit_rows(rows, indexes):
    """Tell whether the wishes with these indexes leave no fence of the rows too weak."""
    return all([sum([asked[index] for index in indexes]) <= width for width, asked in rows])


def sets_of(many):
    """Return the list of all ascending tuples of indexes less than this number, the shorter ones first."""
    return [some for size in range(many + 1) for some in combinations(range(many), size)]


def room_between(net, wishes, one, other):
    """Return the room between the two points."""
    need_wishes(net, wishes)
    need_two_points(net, one, other)
    return roomiest(net, wishes, (one, other))[0]


def room_tree(net, wishes):
    """Return the room tree, a tuple of triples of two points and the room between them, as they are taken."""
    need_wishes(net, wishes)
    pairs = list(combinations(range(net[0]), 2))
    return tuple(in_turn(net[0], [(*pair, roomiest(net, wishes, pair)[0]) for pair in pairs]))


def room_for(net, wishes, one, other):
    """Return the greatest amount of a further wish between the two points."""
    need_wishes(net, wishes)
    need_two_points(net, one, other)
    shape = shape_of(wishes)
    if (one, other) in shape:
        raise NotPossible("wish")
    if len(wishes) == MOST_WISHES:
        raise TooLarge("wishes")
    need_enough(tuple(sorted([*shape, (one, other)])))
    need_strong(net, wishes)
    return roomiest(net, wishes, (one, other))[0]


def wish_room(net, wishes, number):
    """Return the room of the wish with this index."""
    need_number(net, wishes, number)
    need_enough(shape_of(wishes))
    need_strong(net, wishes)
    return roomiest(net, wishes, wishes[number][:2])[0]


def road_room(net, wishes, road):
    """Return the room of the road with this index."""
    need_road(net, wishes, road)
    need_enough(shape_of(wishes))
    need_strong(net, wishes)
    return min(net[1][road][2], roomiest(net, wishes, net[1][road][:2])[0])


def wish_evidence(net, wishes, number):
    """Return evidence about the room of the wish with this index (point 118)."""
    need_number(net, wishes, number)
    need_enough(shape_of(wishes))
    need_small_net(net)
    need_strong(net, wishes)
    pair = wishes[number][:2]
    room, fence = roomiest(net, wishes, pair)
    return room, ways_of_good(net, raised(wishes, [pair], room)), fence


def road_evidence(net, wishes, road):
    """Return evidence about the room of the road with this index (point 118)."""
    need_road(net, wishes, road)
    need_enough(shape_of(wishes))
    need_small_net(net)
    need_strong(net, wishes)
    room, fence = roomiest(net, wishes, net[1][road][:2])
    if room >= net[1][road][2]:
        room, fence = net[1][road][2], None
    return room, ways_of_good(with_narrower(net, road, room), wishes), fence


def accepts_wish(net, wishes, number, value):
    """Return True if the value is evidence about the room of the wish with this index, otherwise False."""
    need_number(net, wishes, number)
    if not is_tuple(value, 3, 3) or not is_number(value[0], 0):
        return False
    room, ways, fence = value
    pair = wishes[number][:2]
    return are_meeting(net, raised(wishes, [pair], room), ways) and has_room(net, wishes, pair, room, fence)


def accepts_road(net, wishes, road, value):
    """Return True if the value is evidence about the room of the road with this index, otherwise False."""
    need_road(net, wishes, road)
    width = net[1][road][2]
    if not is_tuple(value, 3, 3) or not is_within(value[0], 0, width):
        return False
    room, ways, fence = value
    if not are_meeting(with_narrower(net, road, room), wishes, ways):
        return False
    return fence is None if room == width else has_room(net, wishes, net[1][road][:2], room, fence)


def go_together(net, wishes, indexes):
    """Return True if the wishes with these indexes go together, otherwise False."""
    need_indexes(net, wishes, indexes)
    need_enough(shape_of(wishes))
    return first_weak(net, chosen(wishes, indexes)) is None


def clashes(net, wishes):
    """Return the ascending list of all tuples of indexes of wishes that clash."""
    need_few_good(net, wishes)
    rows, found = fence_rows(net, wishes), []
    # Wishes that do not go together clash if none of the clashes of fewer wishes is among them.
    for some in sets_of(len(wishes)):
        if not fit_rows(rows, some) and not any([all([index in some for index in clash]) for clash in found]):
            found.append(some)
    return sorted(found)


def sure_wishes(net, wishes):
    """Return the ascending tuple of the indexes of the sure wishes."""
    found = clashes(net, wishes)
    return tuple([index for index in range(len(wishes)) if not any([index in clash for clash in found])])


def given_up(net, wishes):
    """Return the indexes that are given up."""
    need_few_good(net, wishes)
    rows, every = fence_rows(net, wishes), list(range(len(wishes)))
    rests = [(some, [index for index in every if index not in some]) for some in sets_of(len(wishes))]
    return [some for some, rest in rests if fit_rows(rows, rest)][0]


def clash_evidence(net, wishes, indexes):
    """Return evidence that the wishes with these indexes clash (point 120)."""
    need_indexes(net, wishes, indexes)
    need_enough(shape_of(wishes))
    need_small_net(net)
    mine = chosen(wishes, indexes)
    fence, rests = first_weak(net, mine), without_each(mine)
    if fence is None or any([first_weak(net, rest) is not None for rest in rests]):
        raise NotPossible("clash")
    return fence, tuple([ways_of_good(net, rest) for rest in rests])


def accepts_clash(net, wishes, indexes, value):
    """Return True if the value is evidence that the wishes with these indexes clash, otherwise False."""
    need_indexes(net, wishes, indexes)
    if not is_tuple(value, 2, 2):
        return False
    fence, rows = value
    mine = chosen(wishes, indexes)
    if not are_some(fence, 1, net[0]) or room_left(net, mine, fence) >= 0 or not is_tuple(rows, len(mine), len(mine)):
        return False
    return all([are_meeting(net, rest, ways) for rest, ways in zip(without_each(mine), rows)])
