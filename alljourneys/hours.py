"""The lines of timetables, read from their text."""

from alljourneys.checks import require_spot
from alljourneys.errors import BadNumber, TakenName
from alljourneys.words import NAME, numbers, one_of, raise_too_short, read_text

PERIOD_LIMIT = 6


class HourLines:
    """The kind of the texts of timetables, by the shape of the lines alone; it gathers the lines."""

    def __init__(self):
        self.rows = []

    def allowed(self, words):
        """What may stand behind these words of a line."""
        if not words:
            return one_of(("open", "stop") if self.rows else ("period",))
        if words[0] == "period":
            return numbers(0, 9) if len(words) == 1 else None
        if len(words) == 1:
            return NAME
        return numbers(0, 9) if words[0] == "open" else None

    def may_end(self, words):
        """Whether a line may consist of these words."""
        if not words:
            return True
        return len(words) > 2 if words[0] == "open" else len(words) == 2

    def take(self, words):
        """Keep the words of a line."""
        self.rows.append(words)


class Hours:
    """What a timetable on a map tells: the period, the phases of the roads with an open line, and the stops."""

    def __init__(self, land, text):
        lines = HourLines()
        read_text(text, lines)
        if not lines.rows:
            raise_too_short(text)
        self.period = int(lines.rows[0][1])
        if not 1 <= self.period <= PERIOD_LIMIT:
            raise BadNumber("period", self.period)
        self.phases = {}
        self.stops = {}
        for words in lines.rows[1:]:
            if words[0] == "open":
                self._add_road(land, words)
            else:
                require_spot(land, words[1])
                if words[1] in self.stops:
                    raise TakenName(words[1])
                self.stops[words[1]] = True

    def _add_road(self, land, words):
        """Add an open line."""
        name = land.road_named(words[1]).name
        phases = []
        for word in words[2:]:
            phase = int(word)
            if phase >= self.period or (phases and phase <= phases[-1]):
                raise BadNumber("phase", phase)
            phases.append(phase)
        if name in self.phases:
            raise TakenName(name)
        self.phases[name] = phases
