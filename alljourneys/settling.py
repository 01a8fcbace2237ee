"""The next nodes where each cell of a piece is to be told apart: does it fulfil all conditions of a claim or not.

Whatever nodes are taken, the trees come right; the estimates of how many pieces each
way would need only keep them small. A number is a tuple as told by forms.reading.
"""

from math import gcd

from alljourneys.forms import is_broken, is_divided, is_naught, stays_low, stays_up
from alljourneys.growing import TURN, bend, climbs, is_mixed, parts_needed

# Where a claim ends behind some strips, to part the piece for it is put off: so much more it is taken to cost.
WAIT = 3


class Claim:
    """Conditions on a piece: numbers from 0 on, offsets that are 0, and groups (tops, many) of what is divisible."""

    def __init__(self, numbers, offsets, groups):
        self.numbers = numbers
        self.offsets = offsets
        self.groups = groups

    def is_held(self):
        """Whether all cells of the piece fulfil all conditions."""
        for number in self.numbers:
            if not stays_up(number):
                return False
        for tops, many in self.groups:
            if not all([is_divided(top, many) for top in tops]):
                return False
        return all([is_naught(offset) for offset in self.offsets])

    def is_out(self):
        """Whether it is plain that some condition is fulfilled by no cell of the piece."""
        for number in self.numbers:
            if stays_low(number):
                return True
        for low, first, second in self.offsets:
            if stays_low((low, first, second)) or stays_low((-low, -first, -second)):
                return True
        for tops, many in self.groups:
            if any([is_broken(top, many) for top in tops]):
                return True
        return False

    def ends(self):
        """How often each direction is to be taken until some condition is not fulfilled any more; None where never."""
        first, second = None, None
        for low, one, two in self.numbers:
            if one < 0 and two <= 0 and (first is None or low // -one < first):
                first = low // -one
            if two < 0 and one <= 0 and (second is None or low // -two < second):
                second = low // -two
        for low, one, two in self.offsets:
            if one * two >= 0:
                size = abs(low)
                if one != 0 and (first is None or size // abs(one) < first):
                    first = size // abs(one)
                if two != 0 and (second is None or size // abs(two) < second):
                    second = size // abs(two)
        return None if first is None else first + 1, None if second is None else second + 1


def _side_of(node, number):
    """A node that bends a number, as a tuple of the direction by which it parts, and of what it is behind a turn."""
    if node != TURN:
        return 0, node
    return 1, ("parts", abs(number[1]) // gcd(number[1], number[2]))


def _parting(claim, crowd):
    """The choices to part so that what is to be divisible is so, or never is."""
    needed = [parts_needed(tops, many) for tops, many in claim.groups]
    sides = [(first, second, 0 if first > 1 else 1) for first, second in needed if (first, second) != (1, 1)]
    return [(first * second * crowd, side, ("parts", second if side == 1 else first)) for first, second, side in sides]


def _lasting(claim, along):
    """The choices for a claim that goes on without end: by which node one comes nearer to knowing where it holds."""
    bending = [(bend(number), number) for number in claim.numbers + claim.offsets if is_mixed(number)]
    choices = [(choice.toil, *_side_of(choice.node, number)) for choice, number in bending]
    for number in claim.numbers:
        if number[0] < 0 and not is_mixed(number):
            choices.extend([(many * along[1 - side], side, ("peel", many)) for side, many in enumerate(climbs(number))
                            if many is not None])
    return choices


def settling(claims):
    """The one or two nodes by which one comes nearer to knowing which cells fulfil which of these open claims."""
    ends = [claim.ends() for claim in claims]
    # Behind so many strips along each direction, the claims that end by it alone have ended.
    strips = [max([first for first, second in ends if first is not None and second is None], default=0),
              max([second for first, second in ends if second is not None and first is None], default=0)]
    for first, second in ends:
        if first is not None and second is not None and first > strips[0] and second > strips[1]:
            side = 0 if first <= second else 1
            strips[side] = min(first, second)
    # How much there is to do along each direction: the claims that go on by it.
    along = [2 + len([True for first, second in ends if first is None and second is not None]),
             2 + len([True for first, second in ends if second is None and first is not None])]
    choices = [(strips[side] * along[1 - side], side, ("peel", strips[side])) for side in (0, 1) if strips[side] > 0]
    for claim, (first, second) in zip(claims, ends):
        crowd = 2 + len(claims)
        choices.extend(_parting(claim, crowd if first is None and second is None else WAIT * crowd))
        if first is None and second is None:
            choices.extend(_lasting(claim, along))
    _, side, node = min(choices)
    return (TURN, node) if side == 1 else (node,)
