"""The rules of a traveller, read from their text."""

from alljourneys.checks import require_spot
from alljourneys.errors import BadName, BadNumber, TakenName
from alljourneys.words import NAME, PLAIN_NAME, numbers, one_of, read_text

# For each first word what stands behind it: S for a state, N for any name, D for a number.
SHAPES = {"state": "S", "step": "SNS", "last": "S", "tank": "D", "burn": "ND", "well": "N", "bar": "NN"}
TANK_LIMIT = 23


class RuleLines:
    """The kind of the texts of rules, by the shape of the lines alone; it gathers the lines."""

    def __init__(self):
        self.rows = []

    def allowed(self, words):
        """What may stand behind these words of a line."""
        if not words:
            return one_of(list(SHAPES))
        shape = SHAPES[words[0]]
        if len(words) > len(shape):
            return None
        sign = shape[len(words) - 1]
        if sign == "D":
            return numbers(0, 99)
        return PLAIN_NAME if sign == "S" else NAME

    def may_end(self, words):
        """Whether a line may consist of these words."""
        return not words or len(words) == len(SHAPES[words[0]]) + 1

    def take(self, words):
        """Keep the words of a line."""
        self.rows.append(words)


def _enter(table, key, entry, name):
    """Enter what a line tells; TakenName(name) if the key is entered already."""
    if key in table:
        raise TakenName(name)
    table[key] = entry


class Rules:
    """The rules of a text for a traveller on a map: what its lines tell, each as a dict."""

    def __init__(self, land, text):
        lines = RuleLines()
        read_text(text, lines)
        self.states = {}
        self.steps = {}
        self.lasts = {}
        self.tank = None
        self.burns = {}
        self.wells = {}
        self.bars = {}
        known = {words[1]: True for words in lines.rows if words[0] == "state"}
        for words in lines.rows:
            if words[0] in ("state", "step", "last"):
                self._add_states(words, known)
            elif words[0] == "tank":
                self._add_tank(int(words[1]))
            else:
                self._add_roads(land, words)

    def _add_states(self, words, known):
        """Add a line that is about states."""
        for state in words[1::2]:
            if state not in known:
                raise BadName(state)
        if words[0] == "state":
            _enter(self.states, words[1], True, words[1])
        elif words[0] == "last":
            _enter(self.lasts, words[1], True, words[1])
        else:
            _enter(self.steps, (words[1], words[2]), words[3], words[2])

    def _add_tank(self, number):
        """Add the line of the tank."""
        if not 1 <= number <= TANK_LIMIT:
            raise BadNumber("tank", number)
        if self.tank is not None:
            raise TakenName("tank")
        self.tank = number

    def _add_roads(self, land, words):
        """Add a line that is about roads or spots."""
        if words[0] == "well":
            require_spot(land, words[1])
            _enter(self.wells, words[1], True, words[1])
            return
        land.road_named(words[1])
        if words[0] == "burn":
            _enter(self.burns, words[1], int(words[2]), words[1])
            return
        land.road_named(words[2])
        _enter(self.bars, (words[1], words[2]), True, words[2])
