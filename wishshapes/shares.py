"""Shares: how great a share of all wishes can be met at once, and the fences that bound it."""

from wishshapes.errors import NotPossible
from wishshapes.lengths import are_lengths, are_rises, fence_lengths, need_of, need_small, rise_of, worth_of
from wishshapes.nets import crossing, fences, is_tuple, is_word, need_wishes
from wishshapes.simplex import greatest_value
from wishshapes.ways import are_adding, is_fraction, paths_between, reduced, steps


def need_some_wishes(net, wishes):
    """Raise the error that tells that the net or the wishes are wrong, or that there is no wish."""
    need_wishes(net, wishes)
    if not wishes:
        raise NotPossible("wishes")


def column_of(net, wishes, index, path):
    """Return the numbers of a path for the wish with this index: 1 for each road along it, -1 for the wish."""
    along = steps(path)
    mine = [-1 if at == index else 0 for at in range(len(wishes))]
    return [1 if road[:2] in along else 0 for road in net[1]] + mine


def solved_share(net, wishes):
    """Return the greatest share, how much can go along each path, the prices of the roads, and the unit.

    The amounts are triples (wish, path, amount). Share, amounts and prices stand for themselves divided by the unit.
    """
    trips = [(index, path) for index, wish in enumerate(wishes) for path in paths_between(net, wish[0], wish[1])]
    # The first number is the share: what it asks of a wish may not be more than what goes along the wish's paths.
    asked = [0] * len(net[1]) + [wish[2] for wish in wishes]
    columns = [asked] + [column_of(net, wishes, index, path) for index, path in trips]
    bounds = [road[2] for road in net[1]] + [0] * len(wishes)
    values, prices, unit = greatest_value(columns, [1] + [0] * len(trips), bounds)
    rows = [(index, path, amount) for (index, path), amount in zip(trips, values[1:])]
    return values[0], rows, prices[:len(net[1])], unit


def ways_of_share(wishes, share, rows, unit):
    """Return ways that meet just the share, by rows with amounts that are enough for it."""
    found, missing = [], [share * wish[2] for wish in wishes]
    for index, path, amount in rows:
        part = min(amount, missing[index])
        if part > 0:
            missing[index] -= part
            found.append((index, path, reduced(part, unit)))
    return tuple(found)


def greatest_share(net, wishes):
    """Return the greatest share, a fraction."""
    need_some_wishes(net, wishes)
    need_small(net, wishes)
    share, _, _, unit = solved_share(net, wishes)
    return reduced(share, unit)


def share_evidence(net, wishes):
    """Return evidence about the greatest share (point 106)."""
    need_some_wishes(net, wishes)
    need_small(net, wishes)
    share, rows, prices, unit = solved_share(net, wishes)
    if share == 0:
        # Some wish has no path, so a fence of the width 0 is crossed: prices of 0 alone would have no need.
        lengths, rises = fence_lengths(net, wishes, least_quotient(net, wishes)[1])
    else:
        # By the prices of the roads, which are worth the share, the wishes need 1 or more, and never more than 1.
        lengths = tuple(prices)
        rises = tuple([rise_of(net, lengths, wish[0]) for wish in wishes])
    return "share", reduced(share, unit), ways_of_share(wishes, share, rows, unit), lengths, rises


def accepts_share(net, wishes, value):
    """Return True if the value is evidence about the greatest share, otherwise False."""
    need_some_wishes(net, wishes)
    if not is_tuple(value, 5, 5):
        return False
    word, share, ways, lengths, rises = value
    if not is_word(word, "share") or not is_fraction(share):
        return False
    upper, lower = share
    if not are_adding(net, wishes, [reduced(upper * wish[2], lower) for wish in wishes], ways):
        return False
    if not are_lengths(net, lengths) or not are_rises(net, wishes, lengths, rises):
        return False
    needed = need_of(wishes, rises)
    return needed > 0 and worth_of(net, lengths) * lower == upper * needed


def least_quotient(net, wishes):
    """Return the pair of the least quotient of width and load of a fence, a fraction, and the told fence."""
    need_some_wishes(net, wishes)
    rows = [(crossing(net[1], fence), crossing(wishes, fence), fence) for fence in fences(net)]
    crossed = [row for row in rows if row[1] > 0]
    wide, loaded, told = crossed[0]
    for width, load, fence in crossed[1:]:
        if width * loaded < wide * load:
            wide, loaded, told = width, load, fence
    return reduced(wide, loaded), told
