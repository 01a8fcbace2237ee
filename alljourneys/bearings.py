"""What tables tell on pieces whose cells are bearings."""

from alljourneys.forms import is_broken, is_divided, reading, stays_low, stays_up
from alljourneys.settling import Claim


def _number(condition, piece, shift):
    """The number of a condition on a piece of bearings, looked at behind a shift, as told by reading."""
    _, a, b, c = condition[:4]
    return reading((c + a * shift[0] + b * shift[1], a, b, 0), piece)


def holds_on(rule, piece, shift):
    """Whether all conditions of a rule hold at all cells of a piece, each of them moved by the shift."""
    for condition in rule.conditions:
        number = _number(condition, piece, shift)
        if not (stays_up(number) if condition[0] == "least" else is_divided(number, condition[4])):
            return False
    return True


def fails_on(rule, piece, shift):
    """Whether one of the conditions of a rule holds at no cell of a piece, each of them moved by the shift."""
    for condition in rule.conditions:
        number = _number(condition, piece, shift)
        if stays_low(number) if condition[0] == "least" else is_broken(number, condition[4]):
            return True
    return False


def is_told(rules, index, piece, shift):
    """Whether a rule, by its index, is the first one that fits at all cells of a piece, each moved by the shift."""
    return holds_on(rules[index], piece, shift) and all([fails_on(rule, piece, shift) for rule in rules[:index]])


def _rule_claim(rule, piece, shift):
    """The Claim that a rule fits."""
    told = [(condition, _number(condition, piece, shift)) for condition in rule.conditions]
    numbers = [number for condition, number in told if condition[0] == "least"]
    groups = [([number], condition[4]) for condition, number in told if condition[0] == "rest"]
    return Claim(numbers, [], groups)


def goal_claim(piece, shift):
    """The Claim that the bearing behind a shift is (0, 0)."""
    return Claim([], [reading((shift[0], 1, 0, 0), piece), reading((shift[1], 0, 1, 0), piece)], [])


class Telling:
    """What is told on a piece by the rules of a spot: the index of the one that fits, or "none", or "goal".

    It is None if it is not the same at all cells; then claims has what is to be
    settled first.
    """

    def __init__(self, rules, has_goal, piece, shift):
        self.claims = []
        self.answer = self._read(rules, has_goal, piece, shift)
        if self.claims:
            self.answer = None

    def _read(self, rules, has_goal, piece, shift):
        """What is told, claims left aside, which are gathered."""
        if has_goal:
            goal = goal_claim(piece, shift)
            if goal.is_held():
                return "goal"
            if not goal.is_out():
                self.claims.append(goal)
        for index, rule in enumerate(rules):
            if fails_on(rule, piece, shift):
                continue
            if holds_on(rule, piece, shift):
                return index
            self.claims.append(_rule_claim(rule, piece, shift))
        return "none"
