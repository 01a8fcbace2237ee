"""The next node where each cell of a piece is to be told apart: does it fulfil all conditions of a claim or not.

Whatever node is taken, the trees come right; the estimates of how many pieces each
way would need only keep them small. A number is a tuple as told by forms.reading.
"""

from math import gcd, lcm

from alljourneys.forms import is_broken, is_divided, is_naught, stays_low, stays_up
from alljourneys.growing import TURN, Choice, bend, climbs, is_mixed, leaves, on_strip, parting, parts_needed, sinks


class Claim:
    """Conditions on a piece: numbers from 0 on, offsets that are 0, and groups (tops, many) of what is divisible."""

    def __init__(self, key, numbers, offsets, groups):
        self.key = key
        self.numbers = numbers
        self.offsets = offsets
        self.groups = groups

    def is_held(self):
        """Whether all cells of the piece fulfil all conditions."""
        for number in self.numbers:
            if not stays_up(number):
                return False
        for tops, many in self.groups:
            if not all([is_divided(top, many) for top in tops]):
                return False
        return all([is_naught(offset) for offset in self.offsets])

    def is_out(self):
        """Whether it is plain that some condition is fulfilled by no cell of the piece."""
        for number in self.numbers:
            if stays_low(number):
                return True
        for low, first, second in self.offsets:
            if stays_low((low, first, second)) or stays_low((-low, -first, -second)):
                return True
        for tops, many in self.groups:
            if any([is_broken(top, many) for top in tops]):
                return True
        return False


def _climb(number):
    """How often each direction is to be taken until a number that is not settled yet is, if it bends nowhere."""
    return climbs(number) if number[0] < 0 else sinks(number)


def _is_open(number):
    """Whether a number is neither sure to stay low nor sure to stay up."""
    return not stays_up(number) and not stays_low(number)


def _strip_toil(claim, times, side):
    """About how many pieces are needed on a strip until it is told apart for a claim."""
    strip = Claim(claim.key, [on_strip(number, times, side) for number in claim.numbers],
                  [on_strip(offset, times, side) for offset in claim.offsets],
                  [([on_strip(top, times, side) for top in tops], many) for tops, many in claim.groups])
    if strip.is_out():
        return 0
    lengths = [_climb(number)[0] for number in strip.numbers if _is_open(number)]
    lengths.extend([leaves(offset)[0] for offset in strip.offsets if offset[1] != 0])
    parts = [parts_needed(tops, many)[0] for tops, many in strip.groups]
    return max(lengths, default=0) + sum([part for part in parts if part > 1])


def _strips_toil(claims, many, side):
    """About how many pieces are needed for so many strips, judged by the first and the last one of them."""
    first = sum([_strip_toil(claim, 0, side) for claim in claims])
    last = sum([_strip_toil(claim, many - 1, side) for claim in claims])
    return many * (1 + max(first, last))


def _peelings(claims, found):
    """The choices to peel, where each direction is to be taken so many times, or never."""
    choices = []
    if found[0] is not None:
        choices.append(Choice(_strips_toil(claims, found[0], 0), ("peel", found[0])))
    if found[1] is not None:
        choices.append(Choice(_strips_toil(claims, found[1], 1), TURN))
    return choices


def _parting(claim):
    """The choices to part so that what is to be divisible is so, or never is."""
    needed = [parts_needed(tops, many) for tops, many in claim.groups]
    needed = [parts for parts in needed if parts != (1, 1)]
    if not needed:
        return []
    toil = max([lcm(first, second) for first, second in needed])
    for first, second in needed:
        toil = toil * gcd(first, second)
    return [Choice(toil, parting(min(needed, key=lambda parts: parts[0] * parts[1])))]


def settling(claims):
    """The node by which one comes nearer to knowing which cells fulfil which of these claims, all of them open."""
    choices = []
    for claim in claims:
        choices.extend(_parting(claim))
        bent = claim.numbers + claim.offsets
        choices.extend([bend(number) for number in bent if is_mixed(number)])
    for claim in claims:
        straight = [_climb(number) for number in claim.numbers if _is_open(number) and not is_mixed(number)]
        straight.extend([leaves(offset) for offset in claim.offsets if not is_mixed(offset) and not is_naught(offset)])
        for found in straight:
            choices.extend(_peelings(claims, found))
    return min(choices, key=lambda choice: choice.toil).node
