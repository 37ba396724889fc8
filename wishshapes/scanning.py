"""Texts and their tokens: numbers, signs and the end, each with the column at which it begins."""

from wishshapes.errors import BadValue, TextError

MOST_CHARACTERS = 1500
MOST_DIGITS = 6
DIGITS = "0123456789"
SIGNS = ":-,;/"
BLANK = " "


def need_text(text):
    """Raise BadValue if it is not a string of at most so many characters as a text may have, without newlines."""
    if type(text) != str or len(text) > MOST_CHARACTERS or "\n" in text:
        raise BadValue("text")


def end_of_number(text, start):
    """Return where the digits end that begin at the start, as an index."""
    stop = start
    while stop < len(text) and text[stop] in DIGITS:
        stop += 1
    return stop


def scan(text):
    """Return the list of the tokens of the text, each a tuple (kind, characters, column)."""
    need_text(text)
    tokens, at = [], 0
    while at < len(text):
        stop = at + 1
        if text[at] in DIGITS:
            stop = end_of_number(text, at)
            if stop - at > MOST_DIGITS:
                raise TextError(at + 1, "a number has at most 6 digits")
            tokens.append(("number", text[at:stop], at + 1))
        elif text[at] in SIGNS:
            tokens.append(("sign", text[at], at + 1))
        elif text[at] != BLANK:
            raise TextError(at + 1, "no token begins here")
        at = stop
    tokens.append(("end", "", len(text) + 1))
    return tokens
