"""One wish: the most between two points, bundles that carry it, and the fences that bound it."""

from wishshapes.errors import BadValue
from wishshapes.flows import paths_of, single_flow
from wishshapes.nets import (are_some, crossing, is_number, is_parted, is_tuple, is_within, is_word, need_net,
                             need_two_points)
from wishshapes.parting import narrowest
from wishshapes.ways import fit, is_path

MOST_ASKED = 40


def need_between(net, one, other):
    """Raise BadValue if the net is none, or if these are not two of its points, the lesser one first."""
    need_net(net)
    need_two_points(net, one, other)


def need_asked(net, one, other, amount):
    """Raise BadValue if the net, the two points or the amount are wrong."""
    need_between(net, one, other)
    if not is_within(amount, 0, MOST_ASKED):
        raise BadValue("amount")


def bundle_for(net, one, other, amount):
    """Return a bundle that carries the amount, which is not more than the most."""
    flow = single_flow(net[0], net[1], one, other, amount)
    return tuple(paths_of(flow, one, other, amount))


def is_bundle(net, one, other, value):
    """Tell whether the value is a bundle for these two points of a net."""
    if type(value) != tuple or not all([is_tuple(item, 2, 2) for item in value]):
        return False
    if not all([is_path(net, one, other, path) and is_number(amount, 1) for path, amount in value]):
        return False
    return fit(net, [(path, (amount, 1)) for path, amount in value])


def side_of(net, fence, one):
    """Return the list of the points that the fence leaves with this one."""
    return [point for point in range(net[0]) if not is_parted(fence, point, one)]


def most(net, one, other):
    """Return the most between the two points."""
    need_between(net, one, other)
    return crossing(net[1], narrowest(net, [(one, other)])[0])


def bundle(net, one, other):
    """Return a bundle for the two points that carries the most."""
    return bundle_for(net, one, other, most(net, one, other))


def accepts_bundle(net, one, other, value):
    """Return True if the value is a bundle for the two points, otherwise False."""
    need_between(net, one, other)
    return is_bundle(net, one, other, value)


def amount_evidence(net, one, other, amount):
    """Return evidence about the amount (point 24)."""
    need_asked(net, one, other, amount)
    least = least_fences(net, one, other)[0]
    if crossing(net[1], least) < amount:
        return "fence", least
    return "ways", bundle_for(net, one, other, amount)


def accepts_amount(net, one, other, amount, value):
    """Return True if the value is evidence of either word about the amount, otherwise False."""
    need_asked(net, one, other, amount)
    if not is_tuple(value, 2, 2):
        return False
    word, told = value
    if is_word(word, "ways"):
        return is_bundle(net, one, other, told) and sum([part for _, part in told]) == amount
    if not is_word(word, "fence") or not are_some(told, 1, net[0]):
        return False
    return is_parted(told, one, other) and crossing(net[1], told) < amount


def least_fences(net, one, other):
    """Return the ascending list of the least fences for the two points."""
    need_between(net, one, other)
    return narrowest(net, [(one, other)])


def sides(net, one, other):
    """Return the pair of the near and the far side, two ascending tuples of points."""
    found = [side_of(net, fence, one) for fence in least_fences(net, one, other)]
    near = [point for point in range(net[0]) if all([point in side for side in found])]
    far = [point for point in range(net[0]) if any([point in side for side in found])]
    return tuple(near), tuple(far)


def narrower_roads(net, one, other):
    """Return the ascending tuple of the indexes of the roads with which, narrower by 1, the most becomes less."""
    least = least_fences(net, one, other)
    crossed = [any([is_parted(fence, road[0], road[1]) for fence in least]) for road in net[1]]
    return tuple([index for index, some in enumerate(crossed) if some])


def wider_roads(net, one, other):
    """Return the ascending tuple of the indexes of the roads with which, wider by 1, the most becomes greater."""
    least = least_fences(net, one, other)
    crossed = [all([is_parted(fence, road[0], road[1]) for fence in least]) for road in net[1]]
    return tuple([index for index, every in enumerate(crossed) if every])
