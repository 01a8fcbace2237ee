"""What tables lose beside cheapest journeys."""

from alljourneys.bearings import Telling, goal_claim, is_told
from alljourneys.building import turned
from alljourneys.checks import is_integer
from alljourneys.covers import Rivals, rise_beside
from alljourneys.errors import Unlike
from alljourneys.forms import Gauge, whole
from alljourneys.growing import grown
from alljourneys.nodes import ends_of, is_end, is_index, trees_hold
from alljourneys.pieced import sheet_of
from alljourneys.searching import searched_by
from alljourneys.settling import settling
from alljourneys.takers import EXACT, takers_of
from alljourneys.trees import has_piece


class Guide:
    """Trees that show where a table leads, and that nothing is lost but so much."""

    def __init__(self, most, trees):
        self.most = most
        self.trees = trees


class Loss:
    """The greatest loss of a table."""

    def __init__(self, kind, most, start, goal, way, guide):
        self.kind = kind
        self.most = most
        self.start = start
        self.goal = goal
        self.way = way
        self.guide = guide


def _require_back(table, back):
    """Raise Unlike unless the atlas is one of the turned map of the table."""
    if back.land != turned(table.land):
        raise Unlike("back")


def led_sheets(back, goal, name):
    """The sheets of the bearings from which the road of a name leads to the goal, in order."""
    road = back.land.road_named(name)
    return [sheet.moved(road.shift, road.price) for sheet in back.sheets(goal, road.start)]


class Leaf:
    """A piece of a sheet of bearings on which just one thing is told for a goal: a rule, by its index, or nothing."""

    def __init__(self, piece, rules, answer):
        self.piece = piece
        self.answer = answer
        self.road = rules[answer].road if is_integer(answer) else None


def _leaves(table, goal, spot, sheet):
    """A tree over a sheet of bearings whose ends tell what is told there, and the list of its Leaves, in order."""
    rules = table.rules_of(goal, spot)

    def judge(piece, _):
        telling = Telling(rules, spot == goal, piece, (0, 0))
        if telling.claims:
            return settling(telling.claims), ()
        return (("told", telling.answer),), None

    tree = grown(whole(sheet), None, judge)
    return tree, [Leaf(piece, rules, node[1]) for piece, node in ends_of(whole(sheet), tree)]


class Survey:
    """What a table loses, looked at sheet by sheet: lost, endless and worst are Losses, of each kind the first one."""

    def __init__(self, table, back):
        self.table = table
        self.back = back
        self.lost = None
        self.endless = None
        self.worst = None
        self._rivals = {}

    def _rise_of(self, goal, leaf):
        """By how much the sheets to which the told road of a leaf leads are dearer than the leaf, as a Rise."""
        if (goal, leaf.road) not in self._rivals:
            self._rivals[(goal, leaf.road)] = Rivals(led_sheets(self.back, goal, leaf.road))
        return rise_beside(sheet_of(leaf.piece), self._rivals[(goal, leaf.road)])

    def _nodes_of(self, goal, spot, leaf):
        """The nodes of a Guide for a leaf; what it loses is noted."""
        if leaf.answer == "goal":
            return [("there",)]
        told = None if leaf.answer == "none" else self._rise_of(goal, leaf)
        place = (goal, 0, 0)
        if told is None or told.kind == "cut":
            cell = leaf.piece[0][:2] if told is None else told.cell
            self.lost = Loss("lost", None, (spot, *cell), place, None, None)
            return []
        if told.kind == "endless":
            self.endless = Loss("endless", None, (spot, *told.cell), place, told.way, None)
            return []
        if self.worst is None or told.most > self.worst.most:
            self.worst = Loss("bounded", told.most, (spot, *told.cell), place, None, None)
        return [("go", leaf.answer, node[1]) if node[0] == "end" else node for node in told.tree]

    def trees_of(self, goal, spot):
        """The trees of a Guide for a goal and a spot; they are of use only if nothing is lost, or loses without end."""
        trees = []
        for sheet in self.back.sheets(goal, spot):
            nodes = []
            tree, leaves = _leaves(self.table, goal, spot, sheet)
            waiting = leaves[::-1]
            for node in tree:
                if self.lost is not None:
                    return ()
                nodes.extend(self._nodes_of(goal, spot, waiting.pop()) if node[0] == "told" else [node])
            trees.append(tuple(nodes))
        return tuple(trees)


def loss(table, back):
    """The greatest loss of a table, as a Loss."""
    _require_back(table, back)
    survey = Survey(table, back)
    trees = tuple([tuple([survey.trees_of(goal, spot) for spot in table.land.spots]) for goal in table.goals])
    if survey.lost is not None:
        return survey.lost
    if survey.endless is not None:
        return survey.endless
    if survey.worst is None:
        return Loss("bounded", 0, None, None, None, Guide(0, trees))
    worst = survey.worst
    return Loss("bounded", worst.most, worst.start, worst.goal, None, Guide(worst.most, trees))


def first_loss(table, back):
    """A tuple of a judged place that is lost, or loses something, and of its goal; None if there is none."""
    _require_back(table, back)
    for goal in table.goals:
        for spot in table.land.spots:
            for sheet in back.sheets(goal, spot):
                for leaf in _leaves(table, goal, spot, sheet)[1]:
                    cell = _missed_on(back, goal, leaf)
                    if cell is not None:
                        return (spot, *cell), (goal, 0, 0)
    return None


def _missed_on(back, goal, leaf):
    """A cell of a leaf that loses something; None if there is none."""
    if leaf.answer == "goal":
        return None
    if leaf.answer == "none":
        return leaf.piece[0][:2]
    tree, hole = searched_by(leaf.piece, takers_of(led_sheets(back, goal, leaf.road)), EXACT)
    return None if tree is not None else hole.missed_cells()[0]


def _ends_hold(table, back, goal, spot, most):
    """A function that judges an end of a Guide with this most, as trees_hold asks it."""
    rules = table.rules_of(goal, spot)
    gauges = [[Gauge(sheet) for sheet in led_sheets(back, goal, rule.road)] for rule in rules]

    def fits(_, piece, node):
        if is_end(node, "there", 1):
            return spot == goal and goal_claim(piece, (0, 0)).is_held()
        if not is_end(node, "go", 3) or not is_index(node[1], rules) or not is_index(node[2], gauges[node[1]]):
            return False
        gauge = gauges[node[1]][node[2]]
        return is_told(rules, node[1], piece, (0, 0)) and has_piece(gauge, piece, -most * gauge.many)

    return fits


def guide_holds(table, back, guide):
    """Whether any value is a Guide that holds for a table and an atlas of its turned map."""
    _require_back(table, back)
    if not isinstance(guide, Guide) or not is_integer(guide.most) or guide.most < 0:
        return False
    if not isinstance(guide.trees, tuple) or len(guide.trees) != len(table.goals):
        return False
    for goal, row in zip(table.goals, guide.trees):
        if not isinstance(row, tuple) or len(row) != len(table.land.spots):
            return False
        for spot, trees in zip(table.land.spots, row):
            pieces = [whole(sheet) for sheet in back.sheets(goal, spot)]
            if not trees_hold(pieces, trees, _ends_hold(table, back, goal, spot, guide.most)):
                return False
    return True
