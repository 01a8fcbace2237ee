"""Reading of texts of lines of words, up to the first wrong character.

A kind of text is an object with three methods. `allowed(words)` tells what may
stand behind these words of a line: a rule, or None if nothing may. `may_end(words)`
tells whether a line may consist of just these words. `take(words)` is told each
line with words. A rule is one of
- ("one", words): one of these words;
- ("number", first, last): one of the decimal numbers from first to last;
- ("name", longest, dots): a name of at most so many characters, with dots or without;
- ("new", longest, dots, taken): such a name that is not in the dict taken.
"""

from alljourneys.checks import goes_on, is_letter
from alljourneys.errors import BadText

NAME = ("name", 40, True)
PLAIN_NAME = ("name", 40, False)
SHIFTS = ("one", (
    "-9", "-8", "-7", "-6", "-5", "-4", "-3", "-2", "-1", "0", "1", "2", "3", "4", "5", "6", "7", "8", "9",
))


def one_of(words):
    """The rule for one of these words."""
    return ("one", tuple(words))


def numbers(first, last):
    """The rule for the decimal numbers from first to last."""
    return ("number", first, last)


def new_name(taken, dots):
    """The rule for a name that is none of the keys of this dict."""
    return ("new", NAME[1], dots, taken)


def _read_choice(line, at, words):
    """How far one of the words goes on in the line from a place on, and whether it is whole there."""
    end = at
    while end < len(line) and any([word.startswith(line[at:end + 1]) for word in words]):
        end += 1
    return end, line[at:end] in words


def _read_name(line, at, longest, dots):
    """How far a name goes on in the line from a place on, and whether it is whole there."""
    end = at
    while end < len(line) and end - at < longest and goes_on(line[at:end], line[end]):
        # A name does not end with a dot, so none can be its last possible character.
        if line[end] == "." and (not dots or end - at == longest - 1):
            break
        end += 1
    return end, end > at and line[end - 1] != "."


def _is_short_number(word, first, last):
    """Whether a word is a number from first to last without a sign, if this is plain to see."""
    if not word.isascii() or not word.isdigit() or len(word) > 2:
        return False
    return str(int(word)) == word and first <= int(word) <= last


def _is_plain_name(word, longest):
    """Whether a word is a name of at most so many characters without dots."""
    return word.isascii() and word.isalnum() and word.islower() and is_letter(word[0]) and len(word) <= longest


def _fits(word, rule):
    """Whether a word is right by the rule, if this is plain to see; most words are, so no more is read of them."""
    if rule[0] == "one":
        return word in rule[1]
    if rule[0] == "number":
        return _is_short_number(word, rule[1], rule[2])
    return _is_plain_name(word, rule[1]) and (rule[0] == "name" or word not in rule[3])


def _read_word(line, at, rule):
    """How far a word by the rule goes on in the line from a place on, and whether it is whole there."""
    if rule is None:
        return at, False
    stop = line.find(" ", at)
    word = line[at:] if stop < 0 else line[at:stop]
    if _fits(word, rule):
        return at + len(word), True
    if rule[0] == "one":
        return _read_choice(line, at, rule[1])
    if rule[0] == "number":
        return _read_choice(line, at, [str(number) for number in range(rule[1], rule[2] + 1)])
    end, is_whole = _read_name(line, at, rule[1], rule[2])
    if rule[0] == "new" and line[at:end] in rule[3]:
        return end, False
    return end, is_whole


def read_line(line, kind):
    """The words of a line, and beside them how many characters are right if one is wrong or missing, or None."""
    words = []
    at = 0
    while True:
        while at < len(line) and line[at] == " ":
            at += 1
        if at == len(line):
            return words, (None if kind.may_end(words) else at)
        end, is_whole = _read_word(line, at, kind.allowed(words))
        words.append(line[at:end])
        if not is_whole or (end < len(line) and line[end] != " "):
            return words, end
        at = end


def read_text(text, kind):
    """Read all lines of a text of this kind; BadText if one is wrong. What is missing at its end is told by nothing."""
    for number, line in enumerate(text.split("\n")):
        words, wrong = read_line(line, kind)
        if wrong is not None:
            raise BadText(number + 1, wrong + 1)
        if words:
            kind.take(words)


def raise_too_short(text):
    """Raise the error of a text of which all is right, but something is missing at its end."""
    lines = text.split("\n")
    raise BadText(len(lines), len(lines[-1]) + 1)
