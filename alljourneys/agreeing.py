"""For which letters two letter maps have the same least prices."""

from math import lcm

from alljourneys.errors import Unlike
from alljourneys.letters import require_ratio
from alljourneys.needs import Needs
from alljourneys.rates import is_less, lowest


def _needed_lines(letter):
    """The list of tuples (ends, row, span) of all roads that are needed at some letter; ends are spots and shift."""
    needs = Needs(letter)
    rows = []
    for road in letter.land.roads:
        span = needs.span_of(road)
        if span is not None:
            rows.append(((road.start, road.end, *road.shift), letter.row_along([road]), span))
    return rows


def _require_alike(one, other):
    """Raise Unlike unless the maps of two Letters have the same spots."""
    if sorted(one.land.spots) != sorted(other.land.spots):
        raise Unlike("spots")


def _is_in(span, ratio):
    """Whether a ratio belongs to a span."""
    low, high, has_low, has_high = span
    if ratio == low or ratio == high:
        return has_low if ratio == low else has_high
    return is_less(low, ratio) and is_less(ratio, high)


def _prices_at(lines, ratio):
    """The dict of the prices, times the bottom of the ratio, of the roads that are needed there, by their ends."""
    return {ends: row[0] * ratio[1] + row[1] * ratio[0] for ends, row, span in lines if _is_in(span, ratio)}


def _marks(ours, theirs):
    """The ratios, ascending, between which nothing changes: the ends of spans, and the prices of plain roads."""
    found = {(1, 1): True}
    for _, row, (low, high, _, _) in ours + theirs:
        found[low] = True
        if high is not None:
            found[high] = True
        if row[1] == 0:
            found[(row[0], 1)] = True
    common = 1
    for _, bottom in found:
        common = lcm(common, bottom)
    return sorted(list(found), key=lambda ratio: ratio[0] * (common // ratio[1]))


def _stages(marks):
    """The list of tuples (ratio, low, high) of each mark, and of a ratio between it and the next one, or behind it."""
    stages = []
    for at, mark in enumerate(marks):
        stages.append((mark, mark, mark))
        if at + 1 < len(marks):
            behind = marks[at + 1]
            stages.append((lowest(mark[0] + behind[0], mark[1] + behind[1]), mark, behind))
        else:
            stages.append(((mark[0] + mark[1], mark[1]), mark, None))
    return stages


def agreeing(one, other):
    """A tuple of the spans of all letters for which the least prices are the same in both maps."""
    _require_alike(one, other)
    ours, theirs = _needed_lines(one), _needed_lines(other)
    spans = []
    is_open = False
    for ratio, low, high in _stages(_marks(ours, theirs)):
        if _prices_at(ours, ratio) != _prices_at(theirs, ratio):
            is_open = False
            continue
        if not is_open:
            spans.append((low, high, low == high, low == high))
            is_open = True
        else:
            first, _, has_low, _ = spans.pop()
            spans.append((first, high, has_low, low == high))
    return tuple(spans)


def unlike_at(one, other, ratio):
    """A tuple of two places whose least prices at a letter are not the same in both maps; None if there are none."""
    _require_alike(one, other)
    require_ratio(ratio)
    ours, theirs = _prices_at(_needed_lines(one), ratio), _prices_at(_needed_lines(other), ratio)
    alone = [(price, ends) for prices, others in ((ours, theirs), (theirs, ours))
             for ends, price in prices.items() if others.get(ends) != price]
    if not alone:
        return None
    # The cheapest one: all that is cheaper is needed in both maps, so it has no bridge in the other map.
    _, (start, end, x, y) = min(alone)
    return ((start, 0, 0), (end, x, y))
