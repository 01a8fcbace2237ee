"""Slow, plain readers of the kinds of texts, by regular expressions, to judge the right beginnings of strings."""

import re

NAME = "[a-z](?:[a-z0-9]|[.](?=[a-z0-9]))*"


def is_name(word, dots=True):
    """Whether a word is a name, with dots or without."""
    return bool(re.fullmatch(NAME, word)) and len(word) <= 40 and (dots or "." not in word)


def is_number(word, low, high):
    """Whether a word is a decimal number from low to high, as the document writes it."""
    return bool(re.fullmatch("0|-?[1-9][0-9]*", word)) and low <= int(word) <= high


def is_road(words, names, spots):
    """Whether the words are those of a line of a road that is none of the names, between the spots."""
    return (len(words) in (7, 8) and words[0] == "road" and is_name(words[1]) and words[1] not in names
            and words[2] in spots and words[3] in spots and is_number(words[4], -9, 9) and is_number(words[5], -9, 9)
            and is_number(words[6], 1, 99) and (len(words) == 7 or is_name(words[7])))


def is_map(text):
    """Whether a string is the text of a map."""
    spots, roads = [], []
    for line in text.split("\n"):
        if re.search("[^ a-z0-9.-]", line):
            return False
        words = line.split(" ")
        words = [word for word in words if word]
        if not words:
            continue
        if words[0] == "spot" and len(words) == 2 and is_name(words[1]) and words[1] not in spots and not roads:
            spots.append(words[1])
        elif is_road(words, roads, spots):
            roads.append(words[1])
        else:
            return False
    return 1 <= len(spots) <= 24 and len(roads) <= 160


def where(text, end):
    """The line and the column behind so many characters of a text."""
    start = text[:end]
    return start.count("\n") + 1, end - (start.rfind("\n") + 1) + 1
