"""Nets against shapes: no fence is too weak, and yet no ways meet the wishes, as lengths and rises tell."""

from wishshapes.errors import BadValue, NotPossible, TooLarge
from wishshapes.lengths import are_against, least_sums, rise_of
from wishshapes.made import has_more, is_order, renamed, times
from wishshapes.nets import MOST_AMOUNT, MOST_WIDTH, are_wishes, first_weak, is_net, is_tuple, is_within
from wishshapes.shapes import need_shape, shape_evidence, shape_of, without

MOST_FACTOR = 6


def need_against(shape, value):
    """Raise BadValue if the shape is none, or the value is not a net against it."""
    if not accepts_against(shape, value):
        raise BadValue("value")


def joined_pairs(kind, pairs):
    """Return the list of the pairs of points that are joined in the told net against just these pairs (point 72)."""
    if kind == "triangle":
        corners = sorted({point for pair in pairs[:3] for point in pair})
        joins = [(corner, end) for corner in corners for end in pairs[3]]
    else:
        (first, second), (third, fourth), (fifth, last) = pairs
        joins = [(end, beside) for end in (first, second) for beside in (third, fourth, fifth)]
        joins = joins + [(last, third), (last, fourth)]
    return [(min(join), max(join)) for join in joins]


def length_between(points, lengths, pair):
    """Return the least sum of the lengths of joined pairs of points that lead along this pair, or 1 if none do."""
    joins = list(lengths)
    least = least_sums(points, joins, [lengths[join] for join in joins], pair[0])[pair[1]]
    return 1 if least is None else least


def told_against(shape, kind, pairs):
    """Return the told net against a shape that is not enough by these pairs of it."""
    points = max([pair[1] for pair in shape]) + 1
    widths = {join: 1 for join in joined_pairs(kind, pairs)}
    lengths = {join: 1 for join in widths}
    for pair in without(shape, pairs):
        if pair not in widths:
            lengths[pair] = length_between(points, lengths, pair)
        widths[pair] = widths.get(pair, 0) + 1
    net = (points, tuple([(one, other, widths[one, other]) for one, other in sorted(widths)]))
    twice = pairs[2] if kind == "apart" else None
    wishes = tuple([(*pair, 2 if pair == twice else 1) for pair in shape])
    ordered = tuple([lengths[pair] for pair in sorted(lengths)])
    return net, wishes, ordered, tuple([rise_of(net, ordered, pair[0]) for pair in shape])


def in_new_order(links, items, order):
    """Return the items of the roads, or wishes, in the order that these have when they are renamed."""
    places = {}
    for (one, other, _), item in zip(links, items):
        places[min(order[one], order[other]), max(order[one], order[other])] = item
    return tuple([places[pair] for pair in sorted(places)])


def renamed_rise(wish, rise, order):
    """Return the rise for the renamed wish (point 76)."""
    one, other, _ = wish
    numbers = [0] * len(rise)
    for point, number in enumerate(rise):
        numbers[order[point]] = number
    if order[one] < order[other]:
        return tuple(numbers)
    top = max(rise)
    return tuple([top - number for number in numbers])


def net_against(shape):
    """Return the told net against the shape."""
    word, kind, told = shape_evidence(shape)
    if word == "enough":
        raise NotPossible("enough")
    return told_against(shape, kind, told)


def accepts_against(shape, value):
    """Return True if the value is a net against the shape, otherwise False."""
    need_shape(shape)
    if not is_tuple(value, 4, 4):
        return False
    net, wishes, lengths, rises = value
    if not is_net(net) or not are_wishes(net, wishes) or shape_of(wishes) != shape:
        return False
    return are_against(net, wishes, lengths, rises) and first_weak(net, wishes) is None


def renamed_against(shape, value, order):
    """Return the renamed net against a shape."""
    need_against(shape, value)
    net, wishes, lengths, rises = value
    if not is_order(order, net[0]):
        raise BadValue("order")
    new_rises = [renamed_rise(wish, rise, order) for wish, rise in zip(wishes, rises)]
    new_lengths = in_new_order(net[1], lengths, order)
    return (*renamed(net, wishes, order), new_lengths, in_new_order(wishes, new_rises, order))


def multiplied(shape, value, factor):
    """Return the multiplied net against a shape."""
    need_against(shape, value)
    if not is_within(factor, 1, MOST_FACTOR):
        raise BadValue("factor")
    net, wishes, lengths, rises = value
    roads, asked = times(net[1], factor), times(wishes, factor)
    if has_more(roads, MOST_WIDTH):
        raise TooLarge("width")
    if has_more(asked, MOST_AMOUNT):
        raise TooLarge("amount")
    longer = tuple([length * factor for length in lengths])
    return (net[0], roads), asked, longer, tuple([tuple([number * factor for number in rise]) for rise in rises])
