"""Fences that part pairs of points, and those of them that have the least width."""

from wishshapes.nets import crossing, fences, is_parted


def parting_fences(net, pairs):
    """Return the list of the fences that part each of these pairs of points, in order."""
    return [fence for fence in fences(net) if all([is_parted(fence, one, other) for one, other in pairs])]


def narrowest(net, pairs):
    """Return the list of the fences with the least width of all that part each of these pairs, in order."""
    found = parting_fences(net, pairs)
    widths = [crossing(net[1], fence) for fence in found]
    least = min(widths)
    return [fence for fence, wide in zip(found, widths) if wide == least]
