"""Fractions written as texts and read from them, and names."""

from compasshall.errors import NoText
from compasshall.wholes import common

FIGURES = "0123456789"
MOST_FIGURES = 60
LETTERS = "abcdefghijklmnopqrstuvwxyz"
MOST_LETTERS = 6


def fraction_read(text):
    below = text.startswith("-")
    unsigned = text[1:] if below else text
    parts = unsigned.split("/")
    if not are_parts(parts):
        raise NoText(f"this is no fraction: {text!r}")
    top = int(parts[0])
    bottom = int(parts[1]) if len(parts) == 2 else 1
    shared = common(top, bottom)
    if below:
        top = -top
    return ((top // shared,), bottom // shared)


def are_parts(parts):
    if len(parts) > 2:
        return False
    if len(parts) == 2 and not is_plain(parts[1]):
        return False
    return parts[0] == "0" or is_plain(parts[0])


def is_plain(part):
    if part == "" or len(part) > MOST_FIGURES or part.startswith("0"):
        return False
    # isdigit takes the figures of other scripts too.
    return all([letter in FIGURES for letter in part])


def fraction_text(x):
    top = x[0][0]
    bottom = x[1]
    ahead = "-" if top < 0 else ""
    behind = "" if bottom == 1 else "/" + figures_of(bottom)
    return ahead + figures_of(abs(top)) + behind


def figures_of(n):
    # Python's str refuses a number of some thousand figures, so it gets pieces of sixty.
    piece = 10 ** 60
    pieces = []
    rest = n
    while rest >= piece:
        pieces.append(str(rest % piece).zfill(60))
        rest = rest // piece
    pieces.append(str(rest))
    return "".join(reversed(pieces))


def is_name(word):
    if word == "" or len(word) > MOST_LETTERS:
        return False
    # islower takes the letters of other scripts too.
    return all([letter in LETTERS for letter in word])
