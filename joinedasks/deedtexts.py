"""Deeds, written and read."""

from joinedasks.deeds import LOOK, is_deed, need_deed
from joinedasks.errors import NoText
from joinedasks.whole import read_whole, written


def deed_text(deed):
    """How the deed is written."""
    need_deed(deed)
    add, low, high = deed
    if deed == LOOK:
        return "look"
    if low is not None and low == high:
        return "set " + written(low)
    parts = []
    if add != 0:
        parts.append("add " + written(add))
    if low is not None:
        parts.append("low " + written(low))
    if high is not None:
        parts.append("high " + written(high))
    return " ".join(parts)


def deed_by_words(words):
    """The deed that words and numbers by turns may mean, or None where they mean nothing."""
    numbers = [read_whole(word) for word in words[1::2]]
    if None in numbers or len(words) != 2 * len(numbers):
        return None
    if words[0] == "set":
        return (0, numbers[0], numbers[0])
    parts = dict(zip(words[::2], numbers))
    return (parts.get("add", 0), parts.get("low"), parts.get("high"))


def read_deed(text):
    """The deed that is written so."""
    if not isinstance(text, str):
        raise NoText("a deed's text is a text")
    deed = LOOK if text == "look" else deed_by_words(text.split(" "))
    # What is meant is written in one way only, and only what is written so is read.
    if not is_deed(deed) or deed_text(deed) != text:
        raise NoText("no deed is written so")
    return deed
