"""Whole numbers: which things are such, and how they are written in figures."""

# Figures are written and read so many at a time: Python refuses to do more than some thousands at
# once, and a number that was told may have any number of them.
AT_ONCE = 64
PIECE = 10 ** 64


def is_whole(thing):
    """Whether the thing is a whole number."""
    # To Python True and False are ints, too.
    return isinstance(thing, int) and not isinstance(thing, bool)


def is_within(thing, least, greatest):
    """Whether the thing is a whole number from the least to the greatest."""
    return is_whole(thing) and least <= thing <= greatest


def written(number):
    """The number in figures, `-` ahead where it is below 0."""
    rest = abs(number)
    pieces = []
    while rest >= PIECE:
        rest, piece = divmod(rest, PIECE)
        pieces.append(str(piece).zfill(AT_ONCE))
    pieces.append(str(rest))
    sign = "-" if number < 0 else ""
    return sign + "".join(pieces[::-1])


def read_whole(word):
    """The number that is written just so, or None where none is."""
    figures = word.removeprefix("-")
    if not (figures.isascii() and figures.isdigit()):
        return None
    if figures[0] == "0" and word != "0":
        return None
    first = len(figures) % AT_ONCE
    number = int("0" + figures[:first])
    for at in range(first, len(figures), AT_ONCE):
        number = number * PIECE + int(figures[at:at + AT_ONCE])
    return -number if word[0] == "-" else number
