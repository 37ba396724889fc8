"""Reading the texts of nets with wishes, and of ways; and what can come behind the tokens of a text."""

from math import gcd

from wishshapes.errors import BadValue, TextError
from wishshapes.nets import (LEAST_POINTS, MOST_AMOUNT, MOST_POINTS, MOST_ROADS, MOST_WIDTH, MOST_WISHES, is_word,
                             need_wishes)
from wishshapes.scanning import need_text, scan
from wishshapes.ways import steps

NO_POINT = "there is no such point"

# For each place of a text: what can come there, in the order of point 127, and the place behind it. A place has its
# name from the token ahead of it; the beginning of a text has that of the kind of the text.
FOLLOWING = {
    "task": (("a number", "points"),),
    "points": (('":"', "roads"),),
    "roads": (("a number", "road one"), ('";"', "wishes"), ("the end", "end")),
    "road one": (('"-"', "road line"),),
    "road line": (("a number", "road other"),),
    "road other": (("a number", "road width"),),
    "road width": (('","', "road comma"), ('";"', "wishes"), ("the end", "end")),
    "road comma": (("a number", "road one"),),
    "wishes": (("a number", "wish one"),),
    "wish one": (('"-"', "wish line"),),
    "wish line": (("a number", "wish other"),),
    "wish other": (("a number", "wish amount"),),
    "wish amount": (('","', "wishes"), ("the end", "end")),
    "ways": (("a number", "way index"), ("the end", "end")),
    "way index": (('":"', "path"),),
    "path": (("a number", "path begin"),),
    "path begin": (('"-"', "path line"),),
    "path line": (("a number", "path point"),),
    "path point": (("a number", "way amount"), ('"-"', "path line")),
    "way amount": (('";"', "next way"), ('"/"', "way slash"), ("the end", "end")),
    "way slash": (("a number", "way divisor"),),
    "way divisor": (('";"', "next way"), ("the end", "end")),
    "next way": (("a number", "way index"),),
}


def need_kind(kind):
    """Raise BadValue if it is not the kind of a text."""
    if not is_word(kind, "task") and not is_word(kind, "ways"):
        raise BadValue("kind")


def word_of(token):
    """Return the word that tells what the token is."""
    kind, characters, _ = token
    if kind == "sign":
        return f'"{characters}"'
    return "a number" if kind == "number" else "the end"


def words_at(place):
    """Return the list of the words that tell what can come at the place."""
    return [word for word, _ in FOLLOWING[place]]


def expected(words):
    """Return the words of the problem that none of these came."""
    if len(words) == 1:
        return f"expected {words[0]}"
    ahead = ", ".join(words[:-1])
    return f"expected {ahead} or {words[-1]}"


def places_behind(tokens, kind):
    """Return the list of the places behind each of the tokens; raise TextError at the first that cannot come."""
    found, place = [], kind
    for token in tokens:
        behind = [after for word, after in FOLLOWING[place] if word == word_of(token)]
        if not behind:
            raise TextError(token[2], expected(words_at(place)))
        place = behind[0]
        found.append(place)
    return found


def numbers_of(text, kind):
    """Return the list of the numbers of the text, each as a triple of the place behind it, the number, its column."""
    tokens = scan(text)
    rows = list(zip(places_behind(tokens, kind), tokens))
    return [(place, int(token[1]), token[2]) for place, token in rows if token[0] == "number"]


def rows_at(rows, places):
    """Return the list of those of the numbers that stand at these places, as pairs of the number and its column."""
    return [(number, column) for place, number, column in rows if place in places]


def check(right, column, words):
    """Raise TextError with the column and the words if it is not right."""
    if not right:
        raise TextError(column, words)


def links_in(points, rows, many, most, words):
    """Return the roads, or wishes, of these numbers, three for each.

    There are at most so many, with a width, or an amount, of at most so much; the words tell of more of the two.
    """
    links = []
    for at in range(0, len(rows), 3):
        (one, first), (other, second), (number, third) = rows[at:at + 3]
        check(len(links) < many, first, words[0])
        check(one < points, first, NO_POINT)
        check(other < points, second, NO_POINT)
        check(one < other, second, "the lesser point stands first")
        check(not links or links[-1][:2] < (one, other), second, "the pairs ascend")
        check(1 <= number <= most, third, words[1])
        links.append((one, other, number))
    return tuple(links)


def path_in(net, wish, rows):
    """Return the path for the wish of these numbers."""
    joined, path = [road[:2] for road in net[1]], ()
    for point, column in rows:
        check(point < net[0], column, NO_POINT)
        if path:
            check(point not in path, column, "this point stands already")
            check(steps((path[-1], point))[0] in joined, column, "there is no such road")
        else:
            check(point == wish[0], column, "the path begins elsewhere")
        path = (*path, point)
    check(path[-1] == wish[1], rows[-1][1], "the path ends elsewhere")
    return path


def amount_in(rows):
    """Return the amount, a fraction, of one number or of two."""
    upper, column = rows[0]
    check(upper > 0, column, "an amount is greater than 0")
    if len(rows) == 1:
        return upper, 1
    lower, column = rows[1]
    check(lower >= 2, column, "a divisor is from 2 on")
    check(gcd(upper, lower) == 1, column, "the fraction can be reduced")
    return upper, lower


def way_in(net, wishes, rows):
    """Return the triple of a wish, a path and an amount of these numbers, the first of which is the wish's index."""
    _, index, column = rows[0]
    check(index < len(wishes), column, "there is no such wish")
    path = path_in(net, wishes[index], rows_at(rows, ("path begin", "path point")))
    return index, path, amount_in(rows_at(rows, ("way amount", "way divisor")))


def next_tokens(text, kind):
    """Return the list of what can come behind the tokens of the text, if it is the beginning of one of this kind."""
    need_text(text)
    need_kind(kind)
    places = [kind, *places_behind(scan(text)[:-1], kind)]
    return words_at(places[-1])


def read_task(text):
    """Return the pair of the net and the wishes that the text tells."""
    rows = numbers_of(text, "task")
    _, points, column = rows[0]
    check(LEAST_POINTS <= points <= MOST_POINTS, column, "there are 2 to 7 points")
    roads = links_in(points, rows_at(rows, ("road one", "road other", "road width")), MOST_ROADS, MOST_WIDTH,
                     ("there are at most 15 roads", "a width is from 1 to 6"))
    wishes = links_in(points, rows_at(rows, ("wish one", "wish other", "wish amount")), MOST_WISHES, MOST_AMOUNT,
                      ("there are at most 10 wishes", "an amount is from 1 to 6"))
    return (points, roads), wishes


def read_ways(net, wishes, text):
    """Return the ways for the wishes that the text tells."""
    need_wishes(net, wishes)
    rows = numbers_of(text, "ways")
    starts = [at for at, row in enumerate(rows) if row[0] == "way index"]
    return tuple([way_in(net, wishes, rows[start:stop]) for start, stop in zip(starts, [*starts[1:], len(rows)])])
