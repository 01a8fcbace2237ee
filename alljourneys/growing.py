"""How trees are made: piece by piece, each node chosen by what is known of its piece.

A number is a tuple as told by forms.reading: its value at the base of a piece, and
its changes by the two directions.
"""

from math import gcd

from alljourneys.nodes import parted

DIAGONAL = ("diagonal",)
TURN = ("turn",)

# Into how many parts two directions and their sum are to go where nothing is to be divisible.
PLAIN = (1, 1, 1)

# How many diagonals one behind the other are looked at.
BENDS = 100


class Choice:
    """A node that may be next, and about how many pieces are needed if it is."""

    def __init__(self, toil, node):
        self.toil = toil
        self.node = node


def grown(piece, known, judge):
    """A tree over the piece.

    judge(piece, known) gives a tuple of the nodes of a piece, and what is known of the
    pieces behind them. The nodes are one end, and then None is known; or a node that
    parts the piece, perhaps behind a turn.
    """
    nodes = []
    waiting = [(piece, known)]
    while waiting:
        here, before = waiting.pop()
        found, behind = judge(here, before)
        nodes.extend(found)
        if behind is not None:
            for node in found[:-1]:
                here = parted(here, node)[0]
            waiting.extend([(part, behind) for part in parted(here, found[-1])[::-1]])
    return tuple(nodes)


def is_mixed(number):
    """Whether one direction changes the number upwards and the other one downwards."""
    return number[1] * number[2] < 0


def climbs(number):
    """How often each direction is to be taken until a number below 0 is not below 0; None where it never is."""
    low, first, second = number
    return (-(low // first) if first > 0 else None, -(low // second) if second > 0 else None)


def fewest(many):
    """The lesser one of two numbers, either of which may be None."""
    return min([number for number in many if number is not None])


def on_strip(number, times, side):
    """The number on a strip: one direction, told by side, taken so many times, and only the other one left."""
    if side == 0:
        return (number[0] + times * number[1], number[2], 0)
    return (number[0] + times * number[2], number[1], 0)


def parts_needed(tops, many):
    """Into how many parts each direction is to go until it changes all tops by multiples of many."""
    first, second = many, many
    for top in tops:
        first, second = gcd(first, top[1]), gcd(second, top[2])
    return many // first, many // second


def parting(needed):
    """The node that begins to part by the directions that need it."""
    return ("parts", needed[0]) if needed[0] > 1 else TURN


def bend(number, lattices=(PLAIN,)):
    """The choice for a number that goes upwards by one direction and downwards by the other one.

    Diagonals alone lead to its line, but past pieces on which it settles only far
    away; parts of the right size need just one diagonal more, but are many. So as
    many diagonals are counted as make the parts behind them cheapest. Each piece is
    to be parted once more for those that take it: lattices tells for each kind of
    them into how many parts the directions, and their sum, are to go. Parts that are
    made ahead of the diagonals count for that, too.
    """
    low, first, second = number
    step = gcd(first, second)
    up, down = max(first, second) // step, -min(first, second) // step
    first_parts, second_parts = abs(second) // step, abs(first) // step
    far = abs(low) // step
    width = max([both * max(one, two) for one, two, both in lattices])
    behind = [(one // gcd(one, first_parts)) * (two // gcd(two, second_parts)) for one, two, _ in lattices]
    best = up * down * (1 + sum(behind))
    spent, turns, wanted = 0, 0, 0
    while up != down and turns < BENDS:
        turns += 1
        if up > down:
            spent += far * far // (2 * up * (up - down)) if low < 0 else 0
            up = up - down
        else:
            spent += far * far // (2 * down * (down - up)) if low >= 0 else 0
            down = down - up
        if (spent + turns + 2 * up * down) * width < best:
            best, wanted = (spent + turns + 2 * up * down) * width, turns
    if wanted > 0 or first == -second:
        return Choice(best + 2 * far * width, DIAGONAL)
    return Choice(best + 2 * far * width, parting((first_parts, second_parts)))
