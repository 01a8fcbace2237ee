"""Packets that follow a table, and which roads wait for which."""

from alljourneys.bearings import Telling, fails_on, goal_claim, is_told
from alljourneys.checks import is_cell, is_integer
from alljourneys.errors import JourneyError
from alljourneys.forms import whole
from alljourneys.growing import grown
from alljourneys.journeys import place_behind
from alljourneys.maps import Map, Road, map_of
from alljourneys.nodes import ends_of, is_end, is_index, trees_hold
from alljourneys.regions import quarters
from alljourneys.settling import settling


class Waits:
    """The map of waits of a table, a witness for each of its roads, and trees that show that there are no others."""

    def __init__(self, land, pairs, trees):
        self.land = land
        self.pairs = pairs
        self.trees = trees


class Sight:
    """What is told at the places of a spot for a goal, and where the told roads lead."""

    def __init__(self, table, goal, spot):
        self.goal = goal
        self.spot = spot
        self.rules = table.rules_of(goal, spot)
        self._roads = [table.land.road_named(rule.road) for rule in self.rules]
        self._following = [table.rules_of(goal, road.end) for road in self._roads]

    def nodes_on(self, piece):
        """The nodes of a piece of bearings, and () if they part it, otherwise None."""
        here = Telling(self.rules, self.spot == self.goal, piece, (0, 0))
        if here.claims:
            return settling(here.claims), ()
        if not is_integer(here.answer):
            return (("wait", here.answer, None),), None
        road = self._roads[here.answer]
        behind = Telling(self._following[here.answer], road.end == self.goal, piece, road.shift)
        if behind.claims:
            return settling(behind.claims), ()
        return (("wait", here.answer, behind.answer),), None

    def pair_of(self, here, behind):
        """The names of the roads of two rules: one here, and one where its road leads."""
        return self.rules[here].road, self._following[here][behind].road

    def fits(self, piece, node, pairs):
        """Whether any value is an end that tells what is told on a piece of bearings; pairs has the names of roads."""
        if not is_end(node, "wait", 3) or not _tells(self.rules, self.spot == self.goal, piece, (0, 0), node[1]):
            return False
        if not is_integer(node[1]):
            return node[2] is None
        road = self._roads[node[1]]
        if not _tells(self._following[node[1]], road.end == self.goal, piece, road.shift, node[2]):
            return False
        return not is_integer(node[2]) or self.pair_of(node[1], node[2]) in pairs


def _tells(rules, has_goal, piece, shift, told):
    """Whether any value tells, right for all cells of a piece, what the rules tell there, each moved by the shift."""
    if is_integer(told):
        return is_index(told, rules) and is_told(rules, told, piece, shift)
    if not isinstance(told, str):
        return False
    if told == "goal":
        return has_goal and goal_claim(piece, shift).is_held()
    return told == "none" and all([fails_on(rule, piece, shift) for rule in rules])


def _map_of_waits(land, pairs):
    """The map of waits for these pairs of names of roads."""
    shifts = {road.name: road.shift for road in land.roads}
    roads = [Road(f"w{number + 1}", first, second, shifts[first], 1) for number, (first, second) in enumerate(pairs)]
    return map_of([road.name for road in land.roads], roads)


def _trees_of(sight):
    """A tuple of trees over the quarters that tell what is told for a goal at the places of a spot."""
    trees = []
    for quarter in quarters():
        trees.append(grown(whole(quarter), None, lambda piece, _: sight.nodes_on(piece)))
    return tuple(trees)


def _note_pairs(found, sight, trees):
    """Enter the pairs that trees tell into a dict that has a goal and a bearing for each pair."""
    for quarter, tree in zip(quarters(), trees):
        for piece, node in ends_of(whole(quarter), tree):
            if is_integer(node[1]) and is_integer(node[2]):
                found.setdefault(sight.pair_of(node[1], node[2]), (sight.goal, piece[0][:2]))


def waits_of(table):
    """Waits of a table that hold."""
    names = [road.name for road in table.land.roads]
    # So a map with too many roads, or none, is told at once.
    map_of(names, [])
    found = {}
    rows = []
    for goal in table.goals:
        row = []
        for spot in table.land.spots:
            sight = Sight(table, goal, spot)
            row.append(_trees_of(sight))
            _note_pairs(found, sight, row[-1])
        rows.append(tuple(row))
    numbers = {name: number for number, name in enumerate(names)}
    pairs = sorted(list(found), key=lambda pair: (numbers[pair[0]], numbers[pair[1]]))
    told = tuple([(*pair, *found[pair]) for pair in pairs])
    return Waits(_map_of_waits(table.land, pairs), told, tuple(rows))


def _is_pair(table, value):
    """Whether any value tells two roads of which the first one waits for the second, a goal and a bearing for it."""
    if not isinstance(value, tuple) or len(value) != 4 or not all([isinstance(word, str) for word in value[:3]]):
        return False
    first, second, goal, bearing = value
    roads = {road.name: road for road in table.land.roads}
    if first not in roads or second not in roads or goal not in table.goals or not is_cell(bearing):
        return False
    start = (roads[first].start, *bearing)
    place = (goal, 0, 0)
    return (table.road_at(start, place) == first
            and table.road_at(place_behind(start, roads[first]), place) == second)


def waits_hold(table, waits):
    """Whether any value is Waits that hold for a table."""
    if not isinstance(waits, Waits) or not isinstance(waits.land, Map) or not isinstance(waits.pairs, tuple):
        return False
    if not all([_is_pair(table, value) for value in waits.pairs]):
        return False
    numbers = {road.name: number for number, road in enumerate(table.land.roads)}
    places = [(numbers[value[0]], numbers[value[1]]) for value in waits.pairs]
    if any([one >= other for one, other in zip(places, places[1:])]):
        return False
    pairs = {value[:2]: True for value in waits.pairs}
    if not _is_map_of_waits(table.land, list(pairs), waits.land):
        return False
    if not isinstance(waits.trees, tuple) or len(waits.trees) != len(table.goals):
        return False
    for goal, row in zip(table.goals, waits.trees):
        if not isinstance(row, tuple) or len(row) != len(table.land.spots):
            return False
        for spot, trees in zip(table.land.spots, row):
            if not _quarters_hold(Sight(table, goal, spot), trees, pairs):
                return False
    return True


def _is_map_of_waits(land, pairs, waiting):
    """Whether a map is the map of waits for these pairs; False if there is none, as it would be too large."""
    try:
        return _map_of_waits(land, pairs) == waiting
    except JourneyError:
        return False


def _quarters_hold(sight, trees, pairs):
    """Whether any value is a tuple of trees over the quarters that tell what is told there."""

    def fits(_, piece, node):
        return sight.fits(piece, node, pairs)

    return trees_hold([whole(quarter) for quarter in quarters()], trees, fits)
