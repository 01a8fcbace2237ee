"""Whether values are of the kinds that the document describes."""

from alljourneys.errors import BadPlace, NoSpot

NAME_LIMIT = 40


def is_integer(value):
    """Whether the value is an int that is not a bool."""
    return isinstance(value, int) and not isinstance(value, bool)


def is_cell(value):
    """Whether the value is a tuple of two integers."""
    return isinstance(value, tuple) and len(value) == 2 and is_integer(value[0]) and is_integer(value[1])


def is_place(value):
    """Whether the value is a tuple of a string and two integers."""
    return isinstance(value, tuple) and len(value) == 3 and isinstance(value[0], str) and is_cell(value[1:])


def is_pair(value):
    """Whether the value is a tuple of two items."""
    return isinstance(value, tuple) and len(value) == 2


def is_spot(land, value):
    """Whether the value is the name of a spot of the map."""
    return isinstance(value, str) and value in land.spots


def is_letter(sign):
    """Whether the character is one from a to z."""
    return "a" <= sign <= "z"


def goes_on(name, sign):
    """Whether some name of any length begins with this beginning of a name and the character."""
    if is_letter(sign):
        return True
    if not name:
        return False
    return "0" <= sign <= "9" or (sign == "." and not name.endswith("."))


def is_name(value):
    """Whether the value is a name."""
    if not isinstance(value, str) or not 1 <= len(value) <= NAME_LIMIT or value.endswith("."):
        return False
    return all([goes_on(value[:at], value[at]) for at in range(len(value))])


def require_spot(land, spot):
    """Raise NoSpot unless the value is the name of a spot of the map."""
    if not isinstance(spot, str) or spot not in land.spots:
        raise NoSpot(spot)


def require_place(land, place, what):
    """Raise BadPlace or NoSpot unless the value, the parameter called what, is a place of the map."""
    if not is_place(place):
        raise BadPlace(what)
    require_spot(land, place[0])
