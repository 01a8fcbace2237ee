"""Papers for all letters from one ratio to another one."""

from alljourneys.checks import is_cell, is_place, is_spot, require_spot
from alljourneys.drafts import Draft
from alljourneys.errors import BadPlace
from alljourneys.forms import gauges_of
from alljourneys.letters import LetterFan, letter_fan_holds, require_ratio, sheet_at
from alljourneys.rates import is_less, is_ratio, lowest
from alljourneys.trees import tree_over


class Stretch:
    """A paper for all letters from low to high."""

    def __init__(self, start, low, high, fans, covers):
        self.start = start
        self.low = low
        self.high = high
        self.fans = fans
        self.covers = covers


def stretches(letter, start):
    """A tuple of Stretches that hold, from the letter 1 on, one behind the other."""
    require_spot(letter.land, start)
    draft = Draft(letter, start)
    told = []
    low = (1, 1)
    while low is not None:
        draft.carry_to(low)
        told.append(Stretch(start, low, draft.reach(), tuple(draft.fans), draft.told_covers()))
        low = told[-1].high
    return tuple(told)


def _parts_at(fans, ratio):
    """The spots and sheets of fans where the letter is the ratio, and for None those of the marks alone."""
    if ratio is None:
        return [(fan.spot, fan.marks) for fan in fans]
    return [(fan.spot, sheet_at(fan, ratio)) for fan in fans]


def _covers_hold(letter, fans, covers, ratio):
    """Whether the trees, as many as there are roads, hold where the letter is the ratio."""
    parts = _parts_at(fans, ratio)
    gauges = {spot: gauges_of([sheet for place, sheet in parts if place == spot]) for spot in letter.land.spots}
    for (spot, sheet), trees in zip(parts, covers):
        for road, tree in zip(letter.land.roads_from(spot), trees):
            plain, marked = letter.row_along([road])
            price = marked if ratio is None else plain * ratio[1] + marked * ratio[0]
            if not tree_over(sheet.moved(road.shift, price), gauges[road.end], tree):
                return False
    return True


def _has_ends(stretch):
    """Whether low and high are ratios of at least 1, high above low, or None."""
    low, high = stretch.low, stretch.high
    if not is_cell(low) or not is_ratio(low) or low[0] < low[1]:
        return False
    return high is None or (is_cell(high) and is_ratio(high) and is_less(low, high))


def _begins(start, fans):
    """Whether some fan has the place of the start for at most 0, by its prices and by its marks."""
    for fan in fans:
        price, mark = fan.sheet.price_at((0, 0)), fan.marks.price_at((0, 0))
        if fan.spot == start and price is not None and price <= 0 and mark <= 0:
            return True
    return False


def stretch_holds(letter, stretch):
    """Whether any value is a Stretch that holds for the letter map."""
    if not isinstance(stretch, Stretch) or not is_spot(letter.land, stretch.start) or not _has_ends(stretch):
        return False
    fans, covers = stretch.fans, stretch.covers
    if not isinstance(fans, tuple) or not isinstance(covers, tuple) or len(fans) != len(covers):
        return False
    if not all([isinstance(fan, LetterFan) and letter_fan_holds(letter, stretch.start, fan) for fan in fans]):
        return False
    for fan, trees in zip(fans, covers):
        if not isinstance(trees, tuple) or len(trees) != len(letter.land.roads_from(fan.spot)):
            return False
    return _begins(stretch.start, fans) and all([_covers_hold(letter, fans, covers, ratio)
                                                 for ratio in (stretch.low, stretch.high)])


def require_goal(goal):
    """Raise BadPlace unless the value is a place of whatever spot."""
    if not is_place(goal):
        raise BadPlace("goal")


def price_for(told, goal, ratio):
    """The least price to goal where the letter is the ratio, by what stretches told; None if goal is not reached."""
    require_goal(goal)
    require_ratio(ratio)
    here = [stretch for stretch in told if not is_less(ratio, stretch.low)][-1]
    cell = (goal[1], goal[2])
    prices = [sheet_at(fan, ratio).price_at(cell) for fan in here.fans if fan.spot == goal[0]]
    prices = [price for price in prices if price is not None]
    return lowest(min(prices), ratio[1]) if prices else None
