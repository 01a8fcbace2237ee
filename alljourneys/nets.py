"""Maps as nets: roads by the numbers of their spots, with prices of any size."""


class Link:
    """A road of a net: the numbers of its spots, its shift, its price and its name."""

    def __init__(self, road, start, end, price):
        self.name = road.name
        self.start = start
        self.end = end
        self.shift = road.shift
        self.price = price


class Net:
    """The spots of a map by numbers from 0, and its roads as links, each with a price of the list."""

    def __init__(self, land, prices):
        self.spots = land.spots
        self.spot_numbers = {spot: number for number, spot in enumerate(land.spots)}
        self.links = [Link(road, self.spot_numbers[road.start], self.spot_numbers[road.end], price)
                      for road, price in zip(land.roads, prices)]
        self.links_from = [[link for link in self.links if link.start == number] for number in range(len(land.spots))]


def net_of(land):
    """The Net of a map with the prices of its roads."""
    return Net(land, [road.price for road in land.roads])
