"""Trails: journeys from a start, and where loops can be put into them."""

from alljourneys.sheets import Sheet


class Trail:
    """A journey of links from a spot: where it ends, what it costs, and where it comes to each spot first."""

    def __init__(self, spot, links):
        self.links = links
        self.price = sum([link.price for link in links])
        self.cell = (sum([link.shift[0] for link in links]), sum([link.shift[1] for link in links]))
        self.first_at = {spot: 0}
        for at, link in enumerate(links):
            spot = link.end
            if spot not in self.first_at:
                self.first_at[spot] = at + 1
        self.end = spot
        self.mask = sum([1 << number for number in self.first_at])

    def place_of(self, loop):
        """Where in the trail a loop can be put in first: a tuple of how many links are ahead, and of the spot."""
        return min([(self.first_at[link.start], link.start) for link in loop.links if link.start in self.first_at])

    def meets(self, ray):
        """Whether some loop of a ray can be put in."""
        return any([loop.mask & self.mask != 0 for loop in ray.options()])

    def loop_of(self, ray):
        """The loop of a ray that can be put in first."""
        loops = [loop for loop in ray.options() if loop.mask & self.mask != 0]
        return min(loops, key=lambda loop: self.place_of(loop)[0])

    def sheet_with(self, loops):
        """The sheet of the cells to which the trail leads with these loops."""
        return Sheet(self.cell, self.price, [loop.shift for loop in loops], [loop.price for loop in loops])

    def rounds_of(self, loops):
        """A tuple of tuples of where each loop can be put in first, and of the names of its roads from there on."""
        places = [self.place_of(loop) for loop in loops]
        return tuple([(at, loop.begun_at(spot)) for (at, spot), loop in zip(places, loops)])

    def names(self):
        """The names of the roads."""
        return tuple([link.name for link in self.links])

    def _parts_with(self, loops, counts):
        """The list of tuples (links, times) of the trail with each loop put in as often as counts say."""
        parts = []
        done = 0
        rows = [(self.place_of(loop), number) for number, loop in enumerate(loops)]
        for (at, spot), number in sorted(rows):
            parts.append((self.links[done:at], 1))
            parts.append((loops[number].begun_links(spot), counts[number]))
            done = at
        parts.append((self.links[done:], 1))
        return [(links, times) for links, times in parts if links and times > 0]

    def legs_with(self, loops, counts):
        """The legs of the trail with each loop put in as often as counts say."""
        parts = self._parts_with(loops, counts)
        return tuple([(tuple([link.name for link in links]), times) for links, times in parts])

    def links_with(self, loops, counts):
        """The list of the links with each loop put in as often as counts say."""
        links = []
        for part, times in self._parts_with(loops, counts):
            links.extend(list(part) * times)
        return links
