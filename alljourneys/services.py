"""Services, and which of them is nearest."""

from alljourneys.checks import require_place, require_spot
from alljourneys.errors import BadNumber, TooLarge, TooMany
from alljourneys.owners import own_parts, owned
from alljourneys.plains import missed_cell
from alljourneys.sheets import Sheet

SERVICE_LIMIT = 4
CELL_LIMIT = 9


class Area:
    """The cells from which a service is nearest, as pieces, and the trees that show it."""

    def __init__(self, pieces, trees):
        self.pieces = pieces
        self.trees = trees


def _require_services(land, services):
    """Raise the first error of a list of services."""
    if not services:
        raise BadNumber("services", 0)
    if len(services) > SERVICE_LIMIT:
        raise TooMany("services", len(services), SERVICE_LIMIT)
    for service in services:
        require_place(land, service, "services")
        for number in service[1:]:
            if not -CELL_LIMIT <= number <= CELL_LIMIT:
                raise TooLarge("services", number, CELL_LIMIT)


def sheets_to(atlas, spot, service):
    """The sheets of all cells of a spot from which the service is reached, for their least prices."""
    require_spot(atlas.land, spot)
    require_place(atlas.land, service, "service")
    return tuple([_back_from(sheet, service) for sheet in atlas.sheets(spot, service[0])])


def _back_from(sheet, service):
    """The sheet of the cells from which the steps of a sheet lead to the cell of a service."""
    base = (service[1] - sheet.base[0], service[2] - sheet.base[1])
    return Sheet(base, sheet.price, [(-x, -y) for x, y in sheet.steps], sheet.prices)


def nearest(atlas, services, place):
    """A tuple of the service price of a place and the indexes of the nearest services; None if none is reached."""
    require_place(atlas.land, place, "place")
    _require_services(atlas.land, services)
    prices = [atlas.least_price(place, service) for service in services]
    least = min([price for price in prices if price is not None], default=None)
    if least is None:
        return None
    return least, tuple([index for index, price in enumerate(prices) if price == least])


def areas(atlas, services, spot):
    """For each service the Area of a spot in which it is nearest."""
    require_spot(atlas.land, spot)
    _require_services(atlas.land, services)
    lists = [sheets_to(atlas, spot, service) for service in services]
    found = []
    for index, own in enumerate(lists):
        others = [sheet for other, sheets in enumerate(lists) if other != index for sheet in sheets]
        # Cells at which others are as near belong to the sheets that are ahead, so to those of this service.
        trees = owned([*own, *others])
        pieces = own_parts(own, trees[:len(own)])
        found.append(Area(tuple([part.sheet for part in pieces]), trees))
    return tuple(found)


def unserved(atlas, services, spot):
    """A cell from whose place at a spot no service is reached; None if there is none."""
    require_spot(atlas.land, spot)
    _require_services(atlas.land, services)
    return missed_cell([sheet for service in services for sheet in sheets_to(atlas, spot, service)])
