"""How many cells lie within a price."""

from alljourneys.errors import BadNumber
from alljourneys.owners import parts_of


def _floor_sum(many, bottom, step, start):
    """The sum of (step k + start) // bottom for k from 0 to many - 1; step and start are not below 0."""
    total = 0
    while many > 0:
        total += many * (many - 1) // 2 * (step // bottom) + many * (start // bottom)
        step, start = step % bottom, start % bottom
        # Counting the same points by the other axis makes the numbers as small as in Euclid's algorithm.
        top = step * many + start
        many, start = top // bottom, top % bottom
        bottom, step = step, bottom
        if bottom == 0:
            return total
    return total


def _ways(prices, most):
    """In how many ways the prices, each taken as often as one likes, come to at most this number."""
    if most < 0:
        return 0
    if not prices:
        return 1
    if len(prices) == 1:
        return most // prices[0] + 1
    first, second = prices
    many = most // first + 1
    return many + _floor_sum(many, second, first, most % first)


def count_within(sheets, price):
    """How many cells some of the sheets have for at most the price."""
    for sheet in sheets:
        for number in sheet.prices:
            if number < 1:
                raise BadNumber("prices", number)
    return sum([_ways(part.sheet.prices, price - part.sheet.price) for part in parts_of(sheets)])
