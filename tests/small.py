"""Nets of at most 6 points and 9 roads, with good wishes and with others, for the chapters that meet them."""

import random
from itertools import combinations

from samples import links_of, masks, sum_across

KINDS = ("stars", "four", "ring")
# Three points, each joined to both of two others, with wishes between the three and between the two (point 92).
FIVE = (5, ((0, 3, 1), (0, 4, 1), (1, 3, 1), (1, 4, 1), (2, 3, 1), (2, 4, 1)))
TRIANGLE = ((0, 1, 1), (0, 2, 1), (1, 2, 1), (3, 4, 1))
# Two points, each joined to three others, two of which are joined to a sixth one.
SIX = (6, ((0, 2, 1), (0, 3, 1), (0, 4, 1), (1, 2, 1), (1, 3, 1), (1, 4, 1), (2, 5, 1), (3, 5, 1)))
APART = ((0, 1, 1), (2, 3, 1), (4, 5, 2))
# No lengths that are all alike tell that these wishes are not met.
UNLIKE = (
    ((6, ((0, 1, 3), (0, 2, 1), (0, 4, 3), (1, 2, 1), (1, 3, 3), (1, 5, 1), (2, 5, 1), (3, 5, 1), (4, 5, 1))),
     ((0, 5, 2), (1, 4, 1), (2, 3, 2), (2, 4, 1), (3, 4, 1))),
    ((6, ((0, 1, 2), (0, 2, 1), (0, 3, 2), (0, 5, 1), (1, 4, 1), (2, 4, 1), (2, 5, 2), (3, 4, 1), (3, 5, 1))),
     ((0, 4, 1), (1, 2, 1), (1, 3, 1), (1, 5, 1), (2, 3, 2))),
    ((6, ((0, 2, 3), (0, 3, 2), (0, 4, 3), (1, 3, 1), (1, 5, 3), (2, 5, 3), (4, 5, 1))),
     ((0, 1, 2), (0, 5, 1), (2, 3, 1), (2, 4, 1), (3, 4, 2))),
    ((6, ((0, 2, 1), (0, 3, 3), (0, 4, 1), (1, 2, 3), (1, 5, 2), (2, 4, 1), (3, 5, 1), (4, 5, 1))),
     ((1, 3, 1), (1, 4, 1), (2, 5, 2), (3, 4, 2))),
    ((6, ((0, 2, 2), (0, 3, 1), (0, 5, 1), (1, 2, 3), (1, 3, 1), (1, 4, 1), (2, 5, 2), (4, 5, 1))),
     ((0, 1, 1), (1, 5, 2), (2, 3, 1), (2, 4, 1), (3, 4, 1))),
)


def room_of(net, wishes, fence):
    """Return the width of the fence less its load."""
    return sum_across(net[1], fence) - sum_across(wishes, fence)


def weak_of(net, wishes):
    """Return all fences that are too weak, in order."""
    return [fence for fence in masks(net[0]) if room_of(net, wishes, fence) < 0]


def odd_sums(net, wishes):
    """Return the points whose widths and amounts are together an odd number."""
    links = net[1] + wishes
    return [point for point in range(net[0]) if sum(link[2] for link in links if point in link[:2]) % 2]


def covered_pairs(kind, points, chance):
    """Return pairs of points that make a good shape of this kind."""
    pairs = list(combinations(range(points), 2))
    if kind == "stars":
        two = chance.sample(range(points), 2)
        return [pair for pair in pairs if set(pair) & set(two)]
    if kind == "ring" and points > 4:
        five = chance.sample(range(points), 5)
        return [tuple(sorted(pair)) for pair in zip(five, five[1:] + five[:1])]
    four = chance.sample(range(points), min(4, points))
    return [pair for pair in pairs if set(pair) <= set(four)]


def some_net(points, chance, most=6):
    """Return a net of so many points with up to 9 roads."""
    pairs = list(combinations(range(points), 2))
    many = chance.randint(min(points - 1, len(pairs)), min(9, len(pairs)))
    return points, tuple((one, other, chance.randint(1, most)) for one, other in sorted(chance.sample(pairs, many)))


def some_good(points, chance):
    """Return good wishes of one of the three kinds."""
    pairs = covered_pairs(chance.choice(KINDS), points, chance)
    many = min(len(pairs), 6) if chance.random() < 0.3 else chance.randint(0, min(len(pairs), 6))
    chosen = chance.sample(pairs, many)
    return tuple((one, other, chance.choice((1, 1, 2, 3))) for one, other in sorted(chosen))


def doubled_links(links):
    """Return the links with numbers twice as great."""
    return tuple((one, other, 2 * number) for one, other, number in links)


def evened(net, wishes):
    """Return the net and wishes with roads that are wider or narrower by 1 until all points are even, or None."""
    points, roads = net
    widths = {road[:2]: road[2] for road in roads}
    for point in range(points - 1):
        if point in odd_sums((points, tuple((*pair, width) for pair, width in widths.items())), wishes):
            near = [pair for pair in widths if pair[0] == point]
            if not near:
                return None
            widths[near[-1]] += -1 if widths[near[-1]] == 6 else 1
    return points, tuple((*pair, widths[pair]) for pair in sorted(widths))


def good_tasks(many=150, seed=20):
    """Return pairs of a net and good wishes, about half of them even, in most of which no fence is too weak."""
    chance = random.Random(seed)
    found = [(FIVE, TRIANGLE[:3]), (SIX, APART[:2]), ((6, ()), ()), ((2, ()), ((0, 1, 1),))]
    while len(found) < many:
        points = chance.randint(2, 6)
        net, wishes = some_net(points, chance), some_good(points, chance)
        if len(found) % 3 == 0 and max([road[2] for road in net[1]], default=0) <= 3:
            net, wishes = (points, doubled_links(net[1])), doubled_links(wishes)
        elif len(found) % 3 == 1:
            net = evened(net, wishes)
        if net is not None and (not weak_of(net, wishes) or chance.random() < 0.1):
            found.append((net, wishes))
    return found


def renamed_links(links, order):
    """Return the links with order[x] instead of each point x."""
    return tuple(sorted((*sorted((order[one], order[other])), number) for one, other, number in links))


def hard_task(chance):
    """Return a net and wishes that are near to ones that are not met although no fence is too weak."""
    net, wishes = chance.choice(((FIVE, TRIANGLE), (SIX, APART), *UNLIKE))
    points, roads = net
    wider = [(one, other, number + (chance.random() < 0.1)) for one, other, number in roads]
    free = [pair for pair in combinations(range(points), 2) if pair not in [road[:2] for road in roads]]
    more = chance.sample(free, chance.choice((0, 0, 1)) if len(roads) < 9 else 0)
    order = chance.sample(range(points), points)
    return (points, renamed_links(wider + [(*pair, 1) for pair in more], order)), renamed_links(wishes, order)


def easy_task(chance):
    """Return a net and up to 5 wishes of any shape."""
    points = chance.randint(2, 6)
    pairs = list(combinations(range(points), 2))
    chosen = chance.sample(pairs, chance.randint(0, min(5, len(pairs))))
    return some_net(points, chance), links_of(chosen, chance)


def other_tasks(many=80, seed=21):
    """Return pairs of a net and up to 5 wishes of any shape, in most of which no fence is too weak."""
    chance = random.Random(seed)
    found = [(FIVE, TRIANGLE), (SIX, APART), (FIVE, ()), (FIVE, ((0, 1, 3),)), ((6, ()), ()), ((6, ()), ((4, 5, 6),)),
             ((6, ((0, 1, 1), (0, 2, 1), (0, 3, 1), (0, 4, 1), (1, 2, 1), (1, 5, 1), (2, 5, 2), (3, 4, 2), (4, 5, 3))),
              ((0, 5, 1), (1, 3, 1), (1, 4, 1), (2, 3, 1))),
             ((6, ((0, 1, 2), (0, 3, 3), (0, 4, 1), (1, 2, 2), (1, 5, 1), (2, 4, 1), (2, 5, 1), (3, 4, 1), (3, 5, 3))),
              ((0, 2, 1), (1, 3, 1), (4, 5, 1)))]
    while len(found) < many:
        net, wishes = hard_task(chance) if len(found) % 2 else easy_task(chance)
        if not weak_of(net, wishes) or chance.random() < 0.1:
            found.append((net, wishes))
    return found


def against_tasks():
    """Return pairs of a net and wishes that are not met, although no fence is too weak."""
    found = [(FIVE, TRIANGLE), (SIX, APART), *UNLIKE]
    found += [((net[0], doubled_links(net[1])), doubled_links(wishes)) for net, wishes in found if net[0] < 6]
    wider = FIVE[1][:1] + ((0, 4, 2),) + FIVE[1][2:]
    found.append(((5, wider), ((0, 1, 1), (0, 2, 1), (0, 4, 1)) + TRIANGLE[2:]))
    return found
