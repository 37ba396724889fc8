"""Shapes: for which pairs of points fences alone decide, in every net, whether wishes are met."""

from itertools import combinations, permutations

from wishshapes.errors import BadValue, NotPossible
from wishshapes.made import is_order
from wishshapes.nets import (LEAST_POINTS, MOST_POINTS, is_ascending, is_pair, is_tuple, is_within,
                             is_word)

MOST_PAIRS = 10
KINDS = ("stars", "four", "ring")


def need_shape(shape):
    """Raise BadValue if it is not a shape."""
    if not is_shape(shape):
        raise BadValue("shape")


def need_enough(shape):
    """Raise NotPossible if the shape of wishes is not enough."""
    if not is_enough(shape):
        raise NotPossible("shape")


def is_covered(pair, kind, points):
    """Tell whether points of this kind let the pair be in a shape that is enough by them (point 45)."""
    one, other = pair
    if kind == "stars":
        return one in points or other in points
    if one not in points or other not in points:
        return False
    # In a ring of five the first point and the last one are neighbours, too.
    return kind == "four" or abs(points.index(one) - points.index(other)) in (1, 4)


def is_enough_by(shape, kind, points):
    """Tell whether the shape is enough by just these points."""
    return all([is_covered(pair, kind, points) for pair in shape])


def points_of(kind):
    """Return the list of the points of this kind, in order; of all tuples that are one ring, only the first."""
    if kind == "stars":
        return list(combinations(range(MOST_POINTS), 2))
    if kind == "four":
        return list(combinations(range(MOST_POINTS), 4))
    fives = list(permutations(range(MOST_POINTS), 5))
    return [five for five in fives if five[0] == min(five) and five[1] < five[4]]


def many_points(pairs):
    """Tell how many points these pairs have together."""
    return len({point for pair in pairs for point in pair})


def are_apart(pairs):
    """Tell whether each two of these three pairs are apart."""
    return many_points(pairs) == 6


def are_triangle(pairs):
    """Tell whether these are three different pairs of three points and a pair that has none of these points."""
    return many_points(pairs[:3]) == 3 and many_points(pairs) == 5


def threes_apart(shape):
    """Return the list of the ascending tuples of three pairs of the shape of which each two are apart."""
    return [three for three in combinations(list(shape), 3) if are_apart(three)]


def triangles(shape):
    """Return the list of the tuples of a triangle of the shape, ascending, and a pair apart, in order."""
    return [(*three, pair) for three in combinations(list(shape), 3) for pair in shape if are_triangle((*three, pair))]


def are_points(value, many):
    """Tell whether the value is a tuple of so many points."""
    return is_tuple(value, many, many) and all([is_within(point, 0, MOST_POINTS - 1) for point in value])


def are_pairs_of(shape, value, many):
    """Tell whether the value is a tuple of so many pairs of the shape."""
    return is_tuple(value, many, many) and all([is_pair(pair, MOST_POINTS) and pair in shape for pair in value])


def is_told_enough(shape, kind, points):
    """Tell whether the kind is one that is enough, and the shape is so by these points."""
    if is_word(kind, "ring"):
        right = are_points(points, 5) and len(set(points)) == 5
    elif is_word(kind, "four"):
        right = are_points(points, 4) and is_ascending(points)
    else:
        right = is_word(kind, "stars") and are_points(points, 2) and is_ascending(points)
    return right and is_enough_by(shape, kind, points)


def is_told_not(shape, kind, pairs):
    """Tell whether the kind is one that is not enough, and the shape is so by these pairs."""
    if is_word(kind, "apart"):
        return are_pairs_of(shape, pairs, 3) and is_ascending(pairs) and are_apart(pairs)
    if not is_word(kind, "triangle") or not are_pairs_of(shape, pairs, 4):
        return False
    return is_ascending(pairs[:3]) and are_triangle(pairs)


def shape_of(wishes):
    """Return the shape of the wishes."""
    return tuple([wish[:2] for wish in wishes])


def without(shape, pairs):
    """Return the shape without these pairs."""
    return tuple([pair for pair in shape if pair not in pairs])


def is_shape(value):
    """Return True if the value is a shape, otherwise False."""
    if not is_tuple(value, 0, MOST_PAIRS) or not all([is_pair(pair, MOST_POINTS) for pair in value]):
        return False
    return is_ascending(value)


def is_enough(shape):
    """Return True if the shape is enough, otherwise False."""
    # Papernov's theorem (point 47) asks for less than a search for the points by which the shape is enough.
    need_shape(shape)
    return not threes_apart(shape) and not triangles(shape)


def shape_evidence(shape):
    """Return the told evidence about the shape (point 50)."""
    need_shape(shape)
    for kind in KINDS:
        for points in points_of(kind):
            if is_enough_by(shape, kind, points):
                return "enough", kind, points
    apart = threes_apart(shape)
    if apart:
        return "not", "apart", apart[0]
    return "not", "triangle", triangles(shape)[0]


def accepts_shape(shape, value):
    """Return True if the value is evidence of either word about the shape, otherwise False."""
    need_shape(shape)
    if not is_tuple(value, 3, 3):
        return False
    word, kind, told = value
    if is_word(word, "enough"):
        return is_told_enough(shape, kind, told)
    return is_word(word, "not") and is_told_not(shape, kind, told)


def least_parts(shape):
    """Return the ascending list of the least parts of the shape."""
    need_shape(shape)
    return sorted(threes_apart(shape) + [tuple(sorted(pairs)) for pairs in triangles(shape)])


def greatest_parts(shape):
    """Return the ascending list of the greatest parts of the shape."""
    need_shape(shape)
    # Each part that is enough lies within what some points cover, and what they cover is enough.
    found = sorted({tuple([pair for pair in shape if is_covered(pair, kind, points)])
                    for kind in KINDS for points in points_of(kind)})
    return [part for part in found if not any([len(part) < len(more) and not without(part, more) for more in found])]


def put_away(shape):
    """Return the tuple of the pairs that are put away from the shape."""
    rests = [without(shape, part) for part in greatest_parts(shape)]
    fewest = min([len(rest) for rest in rests])
    return min([rest for rest in rests if len(rest) == fewest])


def may_join(shape, points):
    """Return the ascending tuple of all pairs of two points less than `points` that may join the shape."""
    need_shape(shape)
    if not is_within(points, LEAST_POINTS, MOST_POINTS):
        raise BadValue("points")
    if len(shape) == MOST_PAIRS:
        return ()
    # A shape that is enough with a pair is enough without it, too (point 48).
    others = [pair for pair in combinations(range(points), 2) if pair not in shape]
    return tuple([pair for pair in others if is_enough(tuple(sorted([*shape, pair])))])


def renamed_shape(shape, order):
    """Return the renamed shape."""
    need_shape(shape)
    if not is_order(order, MOST_POINTS):
        raise BadValue("order")
    places = [(order[one], order[other]) for one, other in shape]
    return tuple(sorted([(min(pair), max(pair)) for pair in places]))
