"""Shapes that several tests use, and all evidence about them, found by going through everything."""

import random
from itertools import combinations, permutations

PAIRS = list(combinations(range(7), 2))
RING = ((0, 1), (0, 4), (1, 2), (2, 3), (3, 4))
BOTH = ((0, 1), (0, 2), (1, 2), (3, 4))
APART = ((0, 1), (2, 3), (4, 5))
STARS = tuple(sorted([(0, other) for other in range(1, 7)] + [(1, other) for other in range(2, 6)]))
FOUR = tuple(combinations(range(4), 2))
ROUND = [(here, (here + 1) % 5) for here in range(5)]
RINGS = [five for five in permutations(range(7), 5)]


def rings_of_pairs():
    """Return for each tuple of five points the pairs of its neighbours, the last and the first one included."""
    return {five: {tuple(sorted((five[at], five[to]))) for at, to in ROUND} for five in RINGS}


NEIGHBOURS = rings_of_pairs()


def evidence_of(shape):
    """Return all evidence of the word "enough" in the sequence of point 50, or else all of the word "not"."""
    pairs = set(shape)
    found = [("enough", "stars", two) for two in combinations(range(7), 2) if all(set(two) & set(p) for p in shape)]
    found += [("enough", "four", four) for four in combinations(range(7), 4) if all(set(p) <= set(four) for p in shape)]
    found += [("enough", "ring", five) for five in RINGS if pairs <= NEIGHBOURS[five]]
    for three in combinations(shape, 3):
        if not any(set(one) & set(two) for one, two in combinations(three, 2)):
            found.append(("not", "apart", three))
    for three in combinations(shape, 3):
        corners = set(three[0]) | set(three[1]) | set(three[2])
        if len(corners) == 3:
            found += [("not", "triangle", (*three, pair)) for pair in shape if not corners & set(pair)]
    return found


def is_right(shape):
    """Tell whether the shape is enough, as point 45 says."""
    return any(told[0] == "enough" for told in evidence_of(shape))


def some_shapes(many=120, seed=10):
    """Return shapes of 0 to 10 pairs, of all kinds."""
    chance = random.Random(seed)
    found = [(), RING, RING[1:], BOTH, APART, STARS, FOUR, ((5, 6),), RING + ((5, 6),), BOTH + ((5, 6),),
             ((0, 1), (1, 2)), tuple(PAIRS[:10]), tuple(PAIRS[-10:]), ((2, 3), (2, 6), (3, 4), (4, 5), (5, 6)),
             tuple(PAIRS[::2][:10])]
    while len(found) < many:
        points = chance.sample(range(7), chance.randint(4, 7))
        pairs = [pair for pair in PAIRS if pair[0] in points and pair[1] in points]
        found.append(tuple(sorted(chance.sample(pairs, chance.randint(0, min(10, len(pairs)))))))
    return list(dict.fromkeys(found))
