"""What is plain of a map without knowing all least prices: that a place is not reached, or how fast prices grow."""

from alljourneys.hunts import line_of
from alljourneys.lattices import spanned
from alljourneys.loops import Fronts, loops_of
from alljourneys.nets import net_of
from alljourneys.rates import Descent, times_line
from alljourneys.sheets import cross

PLAIN_LINES = ((1, 0), (0, 1), (-1, 0), (0, -1))


def _behind(ways, first):
    """The dict of the spots to which ways, told as pairs, lead from the first one."""
    found = {first: True}
    waiting = [first]
    while waiting:
        here = waiting.pop()
        for one, other in ways:
            if one == here and other not in found:
                found[other] = True
                waiting.append(other)
    return found


class Passage:
    """The links of a map that are on ways from spot to spot, as a net; is_open tells whether there is such a way."""

    def __init__(self, land, start, goal):
        net = net_of(land)
        self.spots = net.spots
        self.start = net.spot_numbers[start]
        self.goal = net.spot_numbers[goal]
        ahead = _behind([(link.start, link.end) for link in net.links], self.start)
        behind = _behind([(link.end, link.start) for link in net.links], self.goal)
        self.links = [link for link in net.links if link.start in ahead and link.end in behind]
        self.links_from = [[link for link in self.links if link.start == number] for number in range(len(net.spots))]
        self.is_open = self.goal in ahead
        self.hull = Fronts(loops_of(self))

    def _offsets(self):
        """For each spot on a way a cell in which it is reached if links are gone in both directions."""
        cells = {self.start: (0, 0)}
        waiting = [self.start]
        while waiting:
            here = waiting.pop()
            x, y = cells[here]
            for link in self.links:
                if link.start == here and link.end not in cells:
                    cells[link.end] = (x + link.shift[0], y + link.shift[1])
                    waiting.append(link.end)
                if link.end == here and link.start not in cells:
                    cells[link.start] = (x - link.shift[0], y - link.shift[1])
                    waiting.append(link.start)
        return cells

    def _is_off(self, cell):
        """Whether a cell is not reached because of the lattice in which all reached cells lie."""
        cells = self._offsets()
        shifts = [(cells[link.start][0] + link.shift[0] - cells[link.end][0],
                   cells[link.start][1] + link.shift[1] - cells[link.end][1]) for link in self.links]
        (across, slant), (_, up) = spanned(shifts)
        x, y = cell[0] - cells[self.goal][0], cell[1] - cells[self.goal][1]
        if up != 0:
            x, y = x - y // up * slant, y % up
        return y != 0 or (x % across != 0 if across != 0 else x != 0)

    def heights_by(self, costs):
        """For each spot the least cost of a way from the start; None if there is no bound."""
        told = Descent(self, costs, [self.start])
        return told.heights if told.ring is None else None

    def misses(self, cell):
        """Whether it is plain that the place of the goal in a cell is not reached from the start in (0, 0)."""
        if not self.is_open or self._is_off(cell):
            return True
        if self.hull.is_closed:
            return False
        lines = list(PLAIN_LINES)
        for x, y in [ray.shift for ray in self.hull.rays]:
            lines.extend([(x, y), (-y, x), (y, -x)])
        for line in lines:
            heights = self.heights_by([times_line(line, link.shift) for link in self.links])
            if heights is not None and times_line(line, cell) < heights[self.goal]:
                return True
        return False

    def _line_at(self, shift):
        """A line and a bottom: far away in the direction of a shift, bottom times the prices are those of the line."""
        for one, two in self.hull.pairs:
            if cross(one.shift, shift) >= 0 and cross(shift, two.shift) >= 0:
                return line_of(one, two)
        for ray in self.hull.rays:
            if cross(ray.shift, shift) == 0 and times_line(ray.shift, shift) > 0:
                (x, y), price = ray.shift, ray.price
                return (price * x, price * y), x * x + y * y
        return None

    def outrun(self, sheet, at):
        """A cell and a way, as of an endless Rise, along the step of a sheet with this index; None if it is not plain.

        The sheet has prices in another map, which reaches no more places than this one.
        """
        step, price = sheet.steps[at], sheet.prices[at]
        told = self._line_at(step)
        if told is None:
            return None
        line, bottom = told
        slope = times_line(line, step) - bottom * price
        heights = self.heights_by([bottom * link.price - times_line(line, link.shift) for link in self.links])
        if slope <= 0 or heights is None:
            return None
        # Here bottom times the difference is at least this, and it grows by slope with each step.
        least = times_line(line, sheet.base) + heights[self.goal] - bottom * sheet.price
        ahead, many = max(0, -(least // slope)), -(-bottom // slope)
        cell = (sheet.base[0] + ahead * step[0], sheet.base[1] + ahead * step[1])
        return cell, (many * step[0], many * step[1])
