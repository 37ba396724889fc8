"""Two wishes: the bounds of two pairs of points, and the amounts that go together for them."""

from wishshapes.errors import BadValue, NotPossible
from wishshapes.flows import even_flow, paths_of
from wishshapes.made import times
from wishshapes.nets import are_some, crossing, is_pair, is_tuple, is_within, is_word, need_net
from wishshapes.parting import narrowest
from wishshapes.ways import are_meeting, reduced

MOST_ASKED = 40


def need_pairs(net, pair, other):
    """Raise BadValue if the net is none, or if these are not two different pairs of its points."""
    need_net(net)
    if not is_pair(pair, net[0]):
        raise BadValue("pair")
    if not is_pair(other, net[0]) or other == pair:
        raise BadValue("other")


def need_amounts(net, pair, other, amounts):
    """Raise BadValue if the net, the pairs or the amounts for them are wrong."""
    need_pairs(net, pair, other)
    if not is_tuple(amounts, 2, 2) or not all([is_within(amount, 0, MOST_ASKED) for amount in amounts]):
        raise BadValue("amounts")


def wishes_for(pair, other, amounts):
    """Return the two pairs with their amounts, as two wishes; an amount may be 0."""
    return ((*pair, amounts[0]), (*other, amounts[1]))


def fence_against(net, pair, other, amounts):
    """Return a fence that is too weak for the amounts, or None if there is none."""
    wishes = wishes_for(pair, other, amounts)
    weak = [fence for fence in bound_fences(net, pair, other) if crossing(net[1], fence) < crossing(wishes, fence)]
    return weak[0] if weak else None


def gains_of(points, wishes):
    """Return for each point how much more begins there than ends there."""
    gains = [0] * points
    for one, other, amount in wishes:
        gains[one] += amount
        gains[other] -= amount
    return gains


def two_flows(points, roads, wishes):
    """Return whole flows for two wishes that fit within the roads together, where all points are even."""
    first, second = wishes
    back = (second[0], second[1], -second[2])
    along = even_flow(points, roads, gains_of(points, (first, second)))
    against = even_flow(points, roads, gains_of(points, (first, back)))
    # With the second wish forwards in the one and backwards in the other, half of the sum takes the first wish alone
    # and half of the difference the second one. At each road both are as odd as its width, so the halves are whole,
    # and the two halves together are no more than the greater one of both.
    sums = [[(x + y) // 2 for x, y in zip(row, other_row)] for row, other_row in zip(along, against)]
    rests = [[(x - y) // 2 for x, y in zip(row, other_row)] for row, other_row in zip(along, against)]
    return sums, rests


def ways_together(net, wishes):
    """Return ways that meet two wishes for which no fence is too weak."""
    # With all numbers twice as great each point is even, and the ways are twice as great, too. If each point was even
    # before, all amounts that even_flow sends are even, and so both flows here are, and the ways are whole ones.
    points, roads = net
    found = []
    twice = times(wishes, 2)
    for index, flow in enumerate(two_flows(points, times(roads, 2), twice)):
        one, other, amount = twice[index]
        for path, part in paths_of(flow, one, other, amount):
            found.append((index, path, reduced(part, 2)))
    return tuple(found)


def bounds(net, pair, other):
    """Return the bounds of the pair and the other pair."""
    first, second, both = bound_fences(net, pair, other)
    return crossing(net[1], first), crossing(net[1], second), crossing(net[1], both)


def bound_fences(net, pair, other):
    """Return the first fences with these widths: of the first pair, of the second one, of both."""
    need_pairs(net, pair, other)
    return narrowest(net, [pair])[0], narrowest(net, [other])[0], narrowest(net, [pair, other])[0]


def go_together(net, pair, other, amounts):
    """Return True if the amounts go together, otherwise False."""
    need_amounts(net, pair, other, amounts)
    return fence_against(net, pair, other, amounts) is None


def most_beside(net, pair, other, amount):
    """Return the most that goes for the pair together with the amount of the other pair."""
    need_pairs(net, pair, other)
    if not is_within(amount, 0, MOST_ASKED):
        raise BadValue("amount")
    first, second, both = bounds(net, pair, other)
    if amount > second:
        raise NotPossible("amount")
    return min(first, both - amount)


def together_evidence(net, pair, other, amounts):
    """Return evidence about the amounts (point 39)."""
    need_amounts(net, pair, other, amounts)
    fence = fence_against(net, pair, other, amounts)
    if fence is not None:
        return "fence", fence
    return "ways", ways_together(net, wishes_for(pair, other, amounts))


def accepts_together(net, pair, other, amounts, value):
    """Return True if the value is evidence of either word about the amounts, otherwise False."""
    need_amounts(net, pair, other, amounts)
    if not is_tuple(value, 2, 2):
        return False
    word, told = value
    wishes = wishes_for(pair, other, amounts)
    if is_word(word, "ways"):
        return are_meeting(net, wishes, told)
    if not is_word(word, "fence") or not are_some(told, 1, net[0]):
        return False
    return crossing(net[1], told) < crossing(wishes, told)


def greatest_amounts(net, pair, other):
    """Return the ascending list of the greatest amounts."""
    first, second, both = bounds(net, pair, other)
    return [(amount, both - amount) for amount in range(both - second, first + 1)]


def count_amounts(net, pair, other):
    """Return the number of the amounts that go together."""
    first, second, both = bounds(net, pair, other)
    # Of all amounts within their bounds, those fall away that are together more than the third bound.
    spare = first + second - both
    return (first + 1) * (second + 1) - spare * (spare + 1) // 2
