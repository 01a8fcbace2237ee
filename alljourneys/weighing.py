"""The next node where the cells that fulfil one claim are to be told apart, weighed by how many pieces each would need.

It takes longer to weigh than to settle many claims, but for one claim with large
numbers the trees stay small.
"""

from math import gcd, lcm

from alljourneys.forms import stays_low, stays_up
from alljourneys.growing import TURN, Choice, bend, climbs, is_mixed, on_strip, parting, parts_needed
from alljourneys.settling import Claim


def _ways_out(number):
    """How often each direction is to be taken until an open number that does not bend is settled; None where never."""
    low, first, second = number
    if low < 0:
        return climbs(number)
    return (low // -first + 1 if first < 0 else None, low // -second + 1 if second < 0 else None)


def _is_open(number):
    """Whether a number is neither sure to stay low nor sure to stay up."""
    return not stays_up(number) and not stays_low(number)


def _strip_toil(claim, times, side):
    """About how many pieces are needed on a strip until it is told apart."""
    strip = Claim([on_strip(number, times, side) for number in claim.numbers], [],
                  [([on_strip(top, times, side) for top in tops], many) for tops, many in claim.groups])
    if strip.is_out():
        return 0
    lengths = [_ways_out(number)[0] for number in strip.numbers if _is_open(number)]
    parts = [parts_needed(tops, many)[0] for tops, many in strip.groups]
    return max(lengths, default=0) + sum([part for part in parts if part > 1])


def _strips_toil(claim, many, side):
    """About how many pieces are needed for so many strips, judged by the first and the last one of them."""
    return many * (1 + max(_strip_toil(claim, 0, side), _strip_toil(claim, many - 1, side)))


def _partings(claim):
    """The choices to part so that what is to be divisible is so, or never is."""
    needed = [parts_needed(tops, many) for tops, many in claim.groups]
    needed = [parts for parts in needed if parts != (1, 1)]
    if not needed:
        return []
    toil = max([lcm(first, second) for first, second in needed])
    for first, second in needed:
        toil = toil * gcd(first, second)
    return [Choice(toil, parting(min(needed, key=lambda parts: parts[0] * parts[1])))]


def weighed(claim):
    """The node by which one comes nearer to knowing which cells fulfil an open claim without offsets."""
    choices = _partings(claim) + [bend(number) for number in claim.numbers if is_mixed(number)]
    for number in claim.numbers:
        if _is_open(number) and not is_mixed(number):
            for side, many in enumerate(_ways_out(number)):
                if many is not None:
                    choices.append(Choice(_strips_toil(claim, many, side), ("peel", many) if side == 0 else TURN))
    return min(choices, key=lambda choice: choice.toil).node
