"""The search for a tree that shows that sheets have all cells of a sheet."""

from alljourneys.nodes import parted
from alljourneys.takers import left_of, takers_of
from alljourneys.views import is_thin, lattices_of, views_on

# How many times farther than needed the second cell is that a hole tells.
FAR = 1000000

# So many nodes are found in a quick way; where more are needed, it is of use to look at each one with more care.
QUICK = 60


class Hole:
    """Where a search ended: what the takers left are on a piece, and the way on which they fail.

    The way is the first direction and so many times the second one; it is None if
    they fail at the base.
    """

    def __init__(self, piece, views, times):
        self.piece = piece
        self.views = views
        self.times = times

    def along(self):
        """The shift of the way."""
        directions = self.piece[1]
        x, y, _ = directions[0]
        if len(directions) == 1:
            return (x, y)
        return (x + self.times * directions[1][0], y + self.times * directions[1][1])

    def cell_after(self, steps):
        """The cell to which the way, gone so often, leads."""
        x, y, _ = self.piece[0]
        if self.times is None:
            return (x, y)
        shift = self.along()
        return (x + steps * shift[0], y + steps * shift[1])

    def missed_cells(self):
        """Cells that no taker has: the first one on the way that is surely so, and one far behind it."""
        if self.times is None:
            return [self.cell_after(0)]
        ends = [left_behind(view.numbers, view.offsets, self.times) for view in self.views]
        return [self.cell_after(max(ends, default=0)), self.cell_after(FAR * (max(ends, default=0) + 1))]


def left_behind(numbers, offsets, times):
    """How often a way is to be gone until these numbers tell of no cell any more; None if they never do."""
    for low, first, second in offsets:
        if first + times * second != 0:
            return abs(low) + 1
    for low, first, second in numbers:
        fall = -(first + times * second)
        if fall > 0:
            return max(0, low // fall + 1)
    return None


def _far_times(piece, views):
    """How many times the second direction is to be taken beside the first one, so that no line of steps is met."""
    if len(piece[1]) == 1:
        return 0
    times = 1
    while any([first + times * second == 0 for view in views for _, first, second in view.offsets]):
        times += 1
    return times


def _hole_in(piece, views, mode):
    """The Hole in a piece in which the views are thin."""
    while True:
        node, left = _node_of(piece, views, True)
        if node is None:
            return left
        # How thin the pieces are is, in the middle, how thin the whole was; so one of them is thin, too.
        for part in parted(piece, node)[::-1]:
            index, inside = views_on(part, left, mode)
            if index is None and is_thin(inside):
                piece, views = part, inside
                break


def judged(piece, takers, mode, is_careful):
    """The node of a piece, and the takers that are left behind it; None and a Hole if there is none."""
    index, views = views_on(piece, takers, mode)
    if index is not None:
        return ("end", index), []
    if not is_careful:
        return _node_of(piece, views, False)
    if is_thin(views):
        return None, _hole_in(piece, views, mode)
    node, left = _node_of(piece, views, True)
    if node is None or len(piece[1]) < 2:
        return node, left
    # A hole on a side of the piece would be found at last, but perhaps behind very many pieces.
    for direction in piece[1]:
        side = (piece[0], (direction,))
        index, inside = views_on(side, left, mode)
        if index is None and is_thin(inside):
            return None, _hole_in(side, inside, mode)
    return node, left


def _node_of(piece, views, is_careful):
    """The node of a piece that no taker has whole, and their takers; None and a Hole if there is none."""
    if not any([view.has_base() for view in views]):
        return None, Hole(piece, views, None)
    left = left_of([view.taker for view in views])
    growing = [view for view in views if view.grows()]
    bending = [view for view in views if view.bends()]
    if not growing and not bending:
        return None, Hole(piece, views, _far_times(piece, views))
    nearest = growing[0] if growing else None
    if len(growing) > 1:
        nearest = min(growing, key=lambda view: view.strain())
    if not bending and not is_careful:
        return nearest.nearest(), left
    lattices = lattices_of(bending)
    choices = [view.bent(lattices) for view in bending]
    if nearest is not None:
        choices.append(nearest.nearer(views))
    return min(choices, key=lambda choice: choice.toil).node, left


def searched_by(piece, takers, mode):
    """A tree over the piece whose ends hold over the takers, looked at so, beside None; or None beside a Hole."""
    nodes = []
    waiting = [(piece, takers)]
    while waiting:
        here, before = waiting.pop()
        node, left = judged(here, before, mode, len(nodes) > QUICK)
        if node is None:
            return None, left
        nodes.append(node)
        if node[0] != "end":
            waiting.extend([(part, left) for part in parted(here, node)[::-1]])
    return tuple(nodes), None


def searched(piece, sheets, mode):
    """A tree over the piece whose ends hold over the sheets, looked at so, beside None; or None beside a Hole."""
    return searched_by(piece, takers_of(sheets), mode)
