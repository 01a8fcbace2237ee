"""Maps that are put together of pieces, by plans."""

from alljourneys.checks import is_name
from alljourneys.errors import BadName
from alljourneys.maps import Road, ends_rule, map_of, require_few, require_near, road_of
from alljourneys.words import SHIFTS, new_name, numbers, one_of, raise_too_short, read_text

ROAD_WORDS = ("road", "street")
WORD_COUNTS = {"piece": (2,), "spot": (2,), "road": (7, 8), "street": (7, 8), "use": (4, 5, 6, 7), "same": (5,)}


class Piece:
    """What a piece of a plan has behind the lines read so far."""

    def __init__(self):
        self.spots = []
        self.roads = []
        self.given = {}

    def taken(self):
        """The dict of the names that a line can not give anew."""
        return {name: True for name in self.spots + list(self.given)}

    def add_roads(self, words):
        """Add the road, or the two roads of the street, of a line."""
        road = road_of(words)
        if words[0] == "road":
            self.roads.append(road)
            return
        back = (-road.shift[0], -road.shift[1])
        self.roads.append(Road(f"{road.name}.to", road.start, road.end, road.shift, road.price, road.label))
        self.roads.append(Road(f"{road.name}.fro", road.end, road.start, back, road.price, road.label))

    def add_piece(self, piece, name, is_mirrored, turns):
        """Add the spots and roads of a piece that is mirrored first, if it is, and then turned so often."""
        self.spots.extend([f"{name}.{spot}" for spot in piece.spots])
        for road in list(piece.roads):
            x, y = road.shift
            if is_mirrored:
                x = -x
            for _ in range(turns):
                x, y = -y, x
            ends = (f"{name}.{road.start}", f"{name}.{road.end}")
            self.roads.append(Road(f"{name}.{road.name}", ends[0], ends[1], (x, y), road.price, road.label))

    def unite(self, spot, other, shift):
        """Let the places of the spot other be those of spot in the cell to which the shift leads."""
        self.spots = [name for name in self.spots if name != other]
        roads = []
        for road in self.roads:
            x, y = road.shift
            start, end = road.start, road.end
            if start == other:
                start, x, y = spot, x - shift[0], y - shift[1]
            if end == other:
                end, x, y = spot, x + shift[0], y + shift[1]
            roads.append(Road(road.name, start, end, (x, y), road.price, road.label))
        self.roads = roads

    def require_map(self):
        """Raise the error of a piece that is too large for a map."""
        require_few(len(self.spots), len(self.roads))
        for name in self.spots + [road.name for road in self.roads]:
            if not is_name(name):
                raise BadName(name)
        for road in self.roads:
            require_near(road.shift)


class PlanLines:
    """The kind of the texts of plans; it gathers the pieces."""

    def __init__(self):
        self.pieces = {}
        self.last = None

    def allowed(self, words):
        """What may stand behind these words of a line."""
        if not words:
            return one_of(self._heads())
        if words[0] == "piece":
            return new_name(self.pieces, True) if len(words) == 1 else None
        if words[0] == "use":
            return self._use_rule(words)
        if words[0] == "same":
            return self._same_rule(words)
        if len(words) == 1:
            return new_name(self.last.taken(), False)
        return None if words[0] == "spot" else ends_rule(words, self.last.spots)

    def _heads(self):
        """The words with which a line may begin."""
        if self.last is None:
            return ["piece"]
        heads = ["piece", "spot"]
        if self.last.spots:
            heads.extend(ROAD_WORDS)
        # The last piece is not an earlier one, but the only one if there is just one.
        if len(self.pieces) > 1:
            heads.append("use")
        if len(self.last.spots) > 1:
            heads.append("same")
        return heads

    def _use_rule(self, words):
        """What may stand behind these words of a use."""
        if len(words) == 1:
            return one_of(list(self.pieces)[:-1])
        if len(words) == 2:
            return one_of(("as",))
        if len(words) == 3:
            return new_name(self.last.taken(), False)
        if len(words) == 4:
            return one_of(("mirrored", "turned"))
        if words[-1] == "mirrored":
            return one_of(("turned",))
        return numbers(1, 3) if words[-1] == "turned" else None

    def _same_rule(self, words):
        """What may stand behind these words of a line of a same."""
        if len(words) <= 2:
            return one_of([spot for spot in self.last.spots if spot not in words[1:]])
        return SHIFTS if len(words) <= 4 else None

    def may_end(self, words):
        """Whether a line may consist of these words."""
        if not words:
            return True
        if words[0] == "use" and len(words) > 4 and words[-1] == "turned":
            return False
        return len(words) in WORD_COUNTS[words[0]]

    def take(self, words):
        """Do what a line tells; the error of a piece that is too large behind it."""
        if words[0] == "piece":
            self.last = Piece()
            self.pieces[words[1]] = self.last
        here = self.last
        if words[0] == "spot":
            here.spots.append(words[1])
        elif words[0] == "same":
            here.unite(words[1], words[2], (int(words[3]), int(words[4])))
        elif words[0] == "use":
            here.given[words[3]] = True
            turns = int(words[-1]) if "turned" in words[4:] else 0
            here.add_piece(self.pieces[words[1]], words[3], "mirrored" in words[4:], turns)
        elif words[0] in ROAD_WORDS:
            here.given[words[1]] = True
            here.add_roads(words)
        here.require_map()


def built(plan):
    """The Map of the last piece of a plan."""
    lines = PlanLines()
    read_text(plan, lines)
    if lines.last is None or not lines.last.spots:
        raise_too_short(plan)
    return map_of(lines.last.spots, lines.last.roads)
