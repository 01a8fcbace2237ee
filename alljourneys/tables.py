"""Tables that tell at each place which road to take for a goal."""

from alljourneys.checks import is_integer, require_place, require_spot
from alljourneys.errors import BadNumber
from alljourneys.journeys import place_behind
from alljourneys.words import SHIFTS, one_of, read_text

STEP_LIMIT = 1000
RULE_LIMIT = 4
CONDITION_LIMIT = 4

# How many numbers stand behind the first word of a condition, and what they may be.
SIZES = {"least": 3, "rest": 4}
FACTORS = ("one", ("-2", "-1", "0", "1", "2"))
DIVISORS = ("one", ("2", "3"))


class Rule:
    """A road to take where all conditions hold."""

    def __init__(self, conditions, road):
        self.conditions = conditions
        self.road = road


class Followed:
    """How far a table leads from a place."""

    def __init__(self, kind, journey, place, price):
        self.kind = kind
        self.journey = journey
        self.place = place
        self.price = price


class TableLines:
    """The kind of the texts of tables of a map; it gathers the sections: for each goal the rules of the spots."""

    def __init__(self, land):
        self.rows = []
        self.sections = {}
        self._last = {}
        self._roads = {spot: [road.name for road in land.roads_from(spot)] for spot in land.spots}

    def allowed(self, words):
        """What may stand behind these words of a line."""
        if not words:
            return one_of((["goal"] if self._new_goals() else []) + (["at"] if self._open_spots() else []))
        if words[0] == "goal":
            return one_of(self._new_goals()) if len(words) == 1 else None
        if len(words) == 1:
            return one_of(self._open_spots())
        return one_of(("go", "if")) if len(words) == 2 else self._rule_behind(words)

    def _new_goals(self):
        """The list of the spots that have no section yet."""
        return [spot for spot in self._roads if spot not in self.sections]

    def _open_spots(self):
        """The list of the spots that may have one more rule in the last section."""
        if not self.sections:
            return []
        return [spot for spot, names in self._roads.items() if names and len(self._last.get(spot, [])) < RULE_LIMIT]

    def _rule_behind(self, words):
        """What may stand behind these words of an at line, which go at least as far as go or if."""
        at, count = 2, 0
        if words[2] == "if":
            at = 3
            while at < len(words) and words[at] in SIZES:
                here = len(words) - at
                if here <= SIZES[words[at]]:
                    return FACTORS if here <= 2 else SHIFTS if here == 3 else DIVISORS
                at, count = at + 1 + SIZES[words[at]], count + 1
            if at == len(words):
                heads = (["go"] if count > 0 else []) + (list(SIZES) if count < CONDITION_LIMIT else [])
                return one_of(heads)
        return one_of(self._roads[words[1]]) if at == len(words) - 1 else None

    def may_end(self, words):
        """Whether a line may consist of these words."""
        if not words or words[0] == "goal":
            return len(words) != 1
        return len(words) >= 4 and words[-2] == "go"

    def take(self, words):
        """Add the section or the rule of a line."""
        self.rows.append(" ".join(words))
        if words[0] == "goal":
            self._last = {}
            self.sections[words[1]] = self._last
            return
        conditions = []
        at = 2 if words[2] == "go" else 3
        while words[at] != "go":
            behind = at + 1 + SIZES[words[at]]
            conditions.append((words[at], *[int(word) for word in words[at + 1:behind]]))
            at = behind
        self._last.setdefault(words[1], []).append(Rule(tuple(conditions), words[-1]))


def _holds_at(condition, x, y):
    """Whether a condition holds for a bearing."""
    number = condition[1] * x + condition[2] * y + condition[3]
    return number >= 0 if condition[0] == "least" else number % condition[4] == 0


class Table:
    """A table of a map, read from its text."""

    def __init__(self, land, text):
        lines = TableLines(land)
        read_text(text, lines)
        self.land = land
        self.text = "".join([f"{row}\n" for row in lines.rows])
        self.goals = tuple(list(lines.sections))
        self._sections = {goal: {spot: tuple(rules) for spot, rules in section.items()}
                          for goal, section in lines.sections.items()}

    def rules_of(self, goal, spot):
        """The rules of a spot in the section of a goal, in their order."""
        require_spot(self.land, goal)
        require_spot(self.land, spot)
        return self._sections.get(goal, {}).get(spot, ())

    def _told_at(self, place, goal):
        """The Road that is told at a place for a goal; None if none is."""
        if place == goal:
            return None
        x, y = place[1] - goal[1], place[2] - goal[2]
        for rule in self.rules_of(goal[0], place[0]):
            if all([_holds_at(condition, x, y) for condition in rule.conditions]):
                return self.land.road_named(rule.road)
        return None

    def road_at(self, start, goal):
        """The name of the road that is told at start for this goal; None if none is."""
        require_place(self.land, start, "start")
        require_place(self.land, goal, "goal")
        road = self._told_at(start, goal)
        return None if road is None else road.name

    def followed(self, start, goal, most):
        """How far the told roads lead from start, if so many are gone at most, as a Followed."""
        require_place(self.land, start, "start")
        require_place(self.land, goal, "goal")
        if not is_integer(most) or not 0 <= most <= STEP_LIMIT:
            raise BadNumber("most", most)
        place, price, names = start, 0, []
        road = self._told_at(place, goal)
        while road is not None and len(names) < most:
            place, price = place_behind(place, road), price + road.price
            names.append(road.name)
            road = self._told_at(place, goal)
        kind = "there" if place == goal else "lost" if road is None else "going"
        return Followed(kind, tuple(names), place, price)
