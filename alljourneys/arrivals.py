"""When one arrives by a timetable, and when one must depart."""

from alljourneys.atlases import Atlas
from alljourneys.checks import is_integer, require_place, require_spot
from alljourneys.comparing import dearer
from alljourneys.errors import BadNumber


class Arrivals:
    """All arrivals by one timetable."""

    def __init__(self, timetable):
        self.atlas = Atlas(timetable.expanded)
        self.timetable = timetable

    def _require_places(self, start, goal):
        """Raise the errors of the two places."""
        require_place(self.timetable.land, start, "start")
        require_place(self.timetable.land, goal, "goal")

    def _best(self, start, moment, goal):
        """The least duration from a moment on, and the place of the expanded map that it leads to; None if none."""
        first = (self.timetable.spot_at(start[0], moment), start[1], start[2])
        found = []
        for phase in range(self.timetable.period):
            last = (self.timetable.spot_at(goal[0], phase), goal[1], goal[2])
            price = self.atlas.least_price(first, last)
            if price is not None:
                found.append((price, phase, first, last))
        return min(found, default=None)

    def durations(self, start, goal):
        """For each phase at the start, the arrival less the moment; None if there is none."""
        self._require_places(start, goal)
        bests = [self._best(start, phase, goal) for phase in range(self.timetable.period)]
        return tuple([None if best is None else best[0] for best in bests])

    def arrival(self, start, moment, goal):
        """The least moment at which a ride from start at the moment is at goal; None if there is none."""
        self._require_places(start, goal)
        best = self._best(start, moment, goal)
        return None if best is None else moment + best[0]

    def departure(self, start, goal, moment):
        """The greatest moment from which the arrival at goal is at most the moment; None if there is none."""
        period = self.timetable.period
        found = []
        for phase, duration in enumerate(self.durations(start, goal)):
            if duration is not None:
                last = moment - duration
                found.append(last - (last - phase) % period)
        return max(found, default=None)

    def route(self, start, moment, goal):
        """The legs of a ride that is at goal at the arrival, as tuples of a ride and how often it is gone."""
        self._require_places(start, goal)
        best = self._best(start, moment, goal)
        if best is None:
            return None
        legs = self.atlas.route(best[2], best[3])
        return tuple([(self.timetable.plain(journey), times) for journey, times in legs])

    def sheets_at(self, spot, phase, goal):
        """The sheets of the atlas from a spot at a phase to another spot, at all phases."""
        found = []
        for last in range(self.timetable.period):
            first = self.timetable.spot_at(spot, phase)
            found.extend(self.atlas.sheets(first, self.timetable.spot_at(goal, last)))
        return tuple(found)


def lateness(arrivals, spot, phase, other):
    """For each spot as a goal, how much longer it takes from the spot at the phase other than at the first phase."""
    land = arrivals.timetable.land
    require_spot(land, spot)
    for value in (phase, other):
        if not is_integer(value) or not 0 <= value < arrivals.timetable.period:
            raise BadNumber("phase", value)
    return tuple([dearer(arrivals.sheets_at(spot, phase, goal), arrivals.sheets_at(spot, other, goal))
                  for goal in land.spots])
