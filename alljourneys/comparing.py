"""How much dearer some sheets are than others."""

from alljourneys.covers import Rivals, rise_beside


class Dearer:
    """By how much the price by others is above the price by sheets."""

    def __init__(self, kind, most, cell, way, trees):
        self.kind = kind
        self.most = most
        self.cell = cell
        self.way = way
        self.trees = trees


def dearer(sheets, others):
    """By how much the others are dearer than the sheets, as a Dearer."""
    if not sheets:
        return Dearer("none", None, None, None, None)
    rises = []
    rivals = Rivals(others)
    for sheet in sheets:
        rises.append(rise_beside(sheet, rivals))
        if rises[-1].kind == "cut":
            return Dearer("cut", None, rises[-1].cell, None, None)
    for told in rises:
        if told.kind == "endless":
            return Dearer("endless", None, told.cell, told.way, None)
    # The least of the prices by sheets makes the greatest difference, so it is the greatest one for any sheet.
    most = max([told.most for told in rises])
    cell = [told.cell for told in rises if told.most == most][0]
    return Dearer("bounded", most, cell, None, tuple([told.tree for told in rises]))
