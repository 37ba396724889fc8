"""What points 125 to 130 say of texts, worked out apart from the program: all problems, then the first one."""

import random
import re
from functools import lru_cache
from itertools import product
from math import gcd

SIGNS = ":-,;/"
WORDS = {"n": "a number", **{sign: f'"{sign}"' for sign in SIGNS}, "$": "the end"}
LINK = "n-nn"


def pieces(text):
    """Return the pairs of the characters and the column of each token, and of what is none."""
    return [(found.group(), found.start() + 1) for found in re.finditer(r"[0-9]+|[^ ]", text, re.DOTALL)]


def token_problem(text):
    """Return the column and the words of the first token that has a problem, or None."""
    for characters, column in pieces(text):
        if len(characters) > 6:
            return column, "a number has at most 6 digits"
        if not re.fullmatch(r"[0-9]+|[:,;/-]", characters):
            return column, "no token begins here"
    return None


def kind_of(characters):
    """Return the letter of the kind of a token."""
    return "n" if characters[0] in "0123456789" else characters


@lru_cache(maxsize=None)
def beginnings(kind):
    """Return the beginnings of texts of up to three roads, wishes or ways, as letters for the kinds of tokens."""
    found = set()
    if kind == "task":
        for roads, wishes in product(range(4), range(4)):
            text = "n:" + ",".join([LINK] * roads) + (";" + ",".join([LINK] * wishes) if wishes else "") + "$"
            found.update(text[:end] for end in range(len(text) + 1))
        return found
    one = ["n:" + "-".join("n" * points) + amount for points in (2, 3, 4) for amount in ("n", "n/n")]
    for many in range(4):
        for ways in product(one, repeat=many):
            text = ";".join(ways) + "$"
            found.update(text[:end] for end in range(len(text) + 1))
    return found


def letters_ahead(kind, letters):
    """Return the letters with the same choices as these, but with fewer links, points and ways ahead."""
    if kind == "task":
        return re.sub(r"(n-nn,)+", "n-nn,", letters)
    letters = re.sub(r"(-n)(-n)+", r"\1\1", letters)
    return re.sub(r"^([^;]*;)+", "n:n-nn;", letters)


def following(kind, letters):
    """Return what can come behind these letters, in the order of point 127, or None if they begin no text."""
    short = letters_ahead(kind, letters)
    if short not in beginnings(kind):
        return None
    return [WORDS[letter] for letter in "n" + SIGNS + "$" if short + letter in beginnings(kind)]


def listed(words):
    """Return the words of the problem that none of these came."""
    if len(words) == 1:
        return "expected " + words[0]
    return "expected " + ", ".join(words[:-1]) + " or " + words[-1]


def grammar_problem(kind, text):
    """Return the column and the words of the first token that cannot come at its place, or None."""
    letters = ""
    for characters, column in pieces(text) + [("$", len(text) + 1)]:
        words = following(kind, letters)
        if WORDS[kind_of(characters)] not in words:
            return column, listed(words)
        letters += kind_of(characters)
    return None


def numbers_in(text):
    """Return the lists of the numbers with their columns, one list for each part between commas and semicolons."""
    rows, parts = [[]], pieces(text)
    for characters, column in parts:
        if characters in (",", ";"):
            rows.append([])
        elif kind_of(characters) == "n":
            rows[-1].append((int(characters), column))
    return rows


def link_problems(points, rows, many, words):
    """Return all problems of these roads, or wishes, each with its column and its place in point 129."""
    found = []
    for at, ((one, first), (other, second), (number, third)) in enumerate(rows):
        ahead = (rows[at - 1][0][0], rows[at - 1][1][0]) if at else (-1, -1)
        checks = [(first, 1, at == many, words[0]), (first, 2, one >= points, "there is no such point"),
                  (second, 2, other >= points, "there is no such point"),
                  (second, 3, one >= other, "the lesser point stands first"),
                  (second, 4, (one, other) <= ahead, "the pairs ascend"), (third, 5, not 1 <= number <= 6, words[1])]
        found += [(column, rank, told) for column, rank, wrong, told in checks if wrong]
    return found


def task_parts(text):
    """Return the number of points with its column, and the numbers of the roads and of the wishes."""
    head, _, wishes = text.partition(";")
    first, _, roads = head.partition(":")
    points = [row for row in numbers_in(first)[0]][0]
    # Blanks in the place of what stands ahead keep the columns.
    road_rows = [row for row in numbers_in(" " * (len(first) + 1) + roads) if row]
    wish_rows = [row for row in numbers_in(" " * (len(head) + 1) + wishes) if row]
    return points, road_rows, wish_rows


def task_problem(text):
    """Return the column and the words of the first problem of the text of a net with wishes, or None."""
    found = token_problem(text) or grammar_problem("task", text)
    if found:
        return found
    (points, column), roads, wishes = task_parts(text)
    problems = [] if 2 <= points <= 7 else [(column, 0, "there are 2 to 7 points")]
    problems += link_problems(points, roads, 15, ("there are at most 15 roads", "a width is from 1 to 6"))
    problems += link_problems(points, wishes, 10, ("there are at most 10 wishes", "an amount is from 1 to 6"))
    return min(problems)[::2] if problems else None


def way_problems(net, wishes, rows, divided):
    """Return all problems of one way, each with its column and its place in point 130."""
    (index, column), path, amounts = rows[0], rows[1:-2] if divided else rows[1:-1], rows[-2:] if divided else rows[-1:]
    found = [] if index < len(wishes) else [(column, 0, "there is no such wish")]
    wish, joined = wishes[index] if index < len(wishes) else (0, 0, 0), [set(road[:2]) for road in net[1]]
    for at, (point, place) in enumerate(path):
        ahead = [number for number, _ in path[:at]]
        checks = [(1, point >= net[0], "there is no such point"),
                  (2, not at and point != wish[0], "the path begins elsewhere"),
                  (3, at and point in ahead, "this point stands already"),
                  (4, at and {point, *ahead[-1:]} not in joined, "there is no such road"),
                  (5, at == len(path) - 1 and point != wish[1], "the path ends elsewhere")]
        found += [(place, rank, told) for rank, wrong, told in checks if wrong]
    if amounts[0][0] == 0:
        found.append((amounts[0][1], 6, "an amount is greater than 0"))
    if divided and amounts[1][0] < 2:
        found.append((amounts[1][1], 7, "a divisor is from 2 on"))
    if divided and gcd(amounts[0][0], amounts[1][0]) > 1:
        found.append((amounts[1][1], 8, "the fraction can be reduced"))
    return found


def ways_parts(text):
    """Return for each way its numbers with their columns, and whether its amount is divided."""
    starts = [0] + [at + 1 for at, sign in enumerate(text) if sign == ";"]
    parts = [" " * start + text[start:].partition(";")[0] for start in starts] if text.strip() else []
    return [(numbers_in(part)[0], "/" in part) for part in parts]


def ways_problem(net, wishes, text):
    """Return the column and the words of the first problem of the text of ways, or None."""
    found = token_problem(text) or grammar_problem("ways", text)
    if found:
        return found
    problems = [problem for rows, divided in ways_parts(text) for problem in way_problems(net, wishes, rows, divided)]
    return min(problems)[::2] if problems else None


def spread(text, chance):
    """Return the text with other blanks between its tokens, at least one between two numbers."""
    parts, out = [characters for characters, _ in pieces(text)], " " * chance.choice((0, 0, 1, 3))
    for at, part in enumerate(parts):
        out += part
        both = at + 1 < len(parts) and kind_of(part) == kind_of(parts[at + 1]) == "n"
        out += " " * chance.choice((1, 1, 2) if both else (0, 0, 1, 2))
    return out


def mangled(text, chance):
    """Return the text with some of its tokens changed, left out, doubled or put in."""
    parts = [characters for characters, _ in pieces(text)]
    for _ in range(chance.choice((1, 1, 2, 4))):
        at = chance.randrange(len(parts) + 1)
        new = chance.choice(["0", "1", "2", "3", "5", "6", "7", "9", "04", "12", "000007", *SIGNS])
        how = chance.choice("change change change leave double put".split())
        if how == "change":
            numbers = [place for place, part in enumerate(parts) if kind_of(part) == "n"]
            if numbers and kind_of(new) == "n":
                parts[chance.choice(numbers)] = new
            elif parts:
                parts[min(at, len(parts) - 1)] = new
        elif how == "leave":
            parts[at:at + 1] = []
        elif how == "double":
            parts[at:at] = parts[at:at + 1]
        else:
            parts[at:at] = [new]
    return spread(" ".join(parts), chance)


def some_chance(seed):
    """Return a source of numbers that are always the same."""
    return random.Random(seed)
