"""Values that differ from one that is right in one place: in form, in number or in sequence."""

from itertools import permutations


def places(value, here=()):
    """Return the places of all values within nested tuples, as tuples of indexes."""
    found = [here]
    if isinstance(value, tuple):
        for index, item in enumerate(value):
            found += places(item, here + (index,))
    return found


def at(value, place):
    """Return what stands at this place."""
    for index in place:
        value = value[index]
    return value


def put(value, place, new):
    """Return the value with something new at this place."""
    if not place:
        return new
    index = place[0]
    return (*value[:index], put(value[index], place[1:], new), *value[index + 1:])


def other_kinds(item):
    """Return what stands for this item in another form, although it may be equal to it."""
    if isinstance(item, str):
        return [item.encode(), item.upper(), item + " ", item[:-1], "", (item,), [item], list(item), tuple(item), None]
    if isinstance(item, tuple):
        return [list(item), (item,), [item], item + (None,), str(item), frozenset(map(str, item)), dict.fromkeys(item)]
    kinds = [float(item), complex(item), str(item), bytes([item]), None, (item,), [item], item + 0.5, -1 - item]
    return kinds + [bool(item)] if item in (0, 1) else kinds


def in_other_forms(value):
    """Return values that differ from this one in the form of one item at any depth."""
    return [put(value, place, new) for place in places(value) for new in other_kinds(at(value, place))]


def shortened(value):
    """Return the tuple without each one of its items."""
    return [value[:index] + value[index + 1:] for index in range(len(value))]


def doubled(value):
    """Return the tuple with each one of its items twice."""
    return [value[:index] + value[index:index + 1] + value[index:] for index in range(len(value))]


def shuffled(value):
    """Return the tuple in other sequences."""
    return [other for other in permutations(value[:4]) if other != value[:4]]


def form_of(value):
    """Return the types of which the value is made."""
    return [form_of(item) for item in value] if type(value) is tuple else type(value)
