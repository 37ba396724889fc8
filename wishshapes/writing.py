"""Writing nets with wishes, and ways, as texts."""

from wishshapes.errors import BadValue, TooLarge
from wishshapes.nets import need_wishes
from wishshapes.scanning import MOST_CHARACTERS
from wishshapes.ways import are_ways

# The least number with more digits than a number of a text may have.
FIRST_TOO_LONG = 10 ** 6


def links_text(links):
    """Return the text of the roads, or of the wishes."""
    return ", ".join([f"{one}-{other} {number}" for one, other, number in links])


def amount_text(amount):
    """Return the text of a fraction."""
    upper, lower = amount
    return f"{upper}" if lower == 1 else f"{upper}/{lower}"


def way_text(way):
    """Return the text of a triple of the index of a wish, a path and an amount."""
    index, path, amount = way
    points = "-".join([f"{point}" for point in path])
    return f"{index}: {points} {amount_text(amount)}"


def task_text(net, wishes):
    """Return the text of the net with the wishes."""
    need_wishes(net, wishes)
    points, roads = net
    text = f"{points}:"
    if roads:
        text = f"{text} {links_text(roads)}"
    if wishes:
        text = f"{text}; {links_text(wishes)}"
    return text


def ways_text(net, wishes, ways):
    """Return the text of the ways."""
    need_wishes(net, wishes)
    if not are_ways(net, wishes, ways):
        raise BadValue("ways")
    # Python itself refuses to write numbers of very many digits, so they are compared instead.
    if any([max(amount) >= FIRST_TOO_LONG for _, _, amount in ways]):
        raise TooLarge("text")
    text = "; ".join([way_text(way) for way in ways])
    if len(text) > MOST_CHARACTERS:
        raise TooLarge("text")
    return text
