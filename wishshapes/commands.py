"""Commands that put in, change or take out a road or a wish, and the bounds of what they may lead to."""

from wishshapes.nets import MOST_AMOUNT, is_pair, is_tuple, is_within, is_word

MOST_COMMANDS = 20
MOST_ROADS_HELD = 9
MOST_WISHES_HELD = 5


def is_command(points, value):
    """Tell whether the value is a command for a net of so many points (point 136)."""
    if not is_tuple(value, 4, 4) or not (is_word(value[0], "road") or is_word(value[0], "wish")):
        return False
    # A width may be just as great as an amount.
    return is_pair(value[1:3], points) and is_within(value[3], 0, MOST_AMOUNT)


def changed(links, one, other, number):
    """Return the roads, or wishes, with this number for the two points, and with none for them if it is 0."""
    others = [link for link in links if link[:2] != (one, other)]
    new = [(one, other, number)] if number > 0 else []
    return tuple(sorted(others + new))


def behind(net, wishes, command):
    """Return the pair of the net and the wishes that the command leads to."""
    word, one, other, number = command
    if word == "road":
        return (net[0], changed(net[1], one, other, number)), wishes
    return net, changed(wishes, one, other, number)


def refusal(net, wishes, command):
    """Return the word that tells why the command is not possible, or None if it is."""
    new_net, new_wishes = behind(net, wishes, command)
    if new_net == net and new_wishes == wishes:
        return "same"
    if len(new_net[1]) > MOST_ROADS_HELD or len(new_wishes) > MOST_WISHES_HELD:
        return "many"
    return None
