"""Random tables of maps, and slow answers about them by the words of the document."""

import re

CONDITION = "(?:least(?: (?:-[12]|[012])){2} (?:-[1-9]|[0-9])|rest(?: (?:-[12]|[012])){2} (?:-[1-9]|[0-9]) [23])"
RULE = re.compile(f"at ([a-z0-9.]+) (?:if ((?:{CONDITION} ){{1,4}}))?go ([a-z0-9.]+)")


def sections_of(land, text):
    """The sections of the text of a table: {goal: {spot: [(conditions, road)]}}; None if it is none."""
    sections = {}
    for line in text.split("\n"):
        if re.search("[^ a-z0-9.-]", line):
            return None
        row = " ".join(word for word in line.split(" ") if word)
        if not row:
            continue
        words = row.split(" ")
        if words[0] == "goal" and len(words) == 2 and words[1] in land.spots and words[1] not in sections:
            sections[words[1]] = last = {}
            continue
        found = RULE.fullmatch(row)
        if not found or not sections or found[1] not in land.spots:
            return None
        if found[3] not in [road.name for road in land.roads_from(found[1])]:
            return None
        numbers = [part.split() for part in re.findall(CONDITION, found[2] or "")]
        rules = last.setdefault(found[1], [])
        rules.append(([(part[0], *map(int, part[1:])) for part in numbers], found[3]))
        if len(rules) > 4:
            return None
    return sections


def holds(condition, x, y):
    number = condition[1] * x + condition[2] * y + condition[3]
    return number >= 0 if condition[0] == "least" else number % condition[4] == 0


def told(land, sections, start, goal):
    """The Road that is told at a place for a goal; None if none is."""
    if start == goal:
        return None
    x, y = start[1] - goal[1], start[2] - goal[2]
    for conditions, road in sections.get(goal[0], {}).get(start[0], []):
        if all(holds(condition, x, y) for condition in conditions):
            return land.road_named(road)
    return None


def behind(place, road):
    return (road.end, place[1] + road.shift[0], place[2] + road.shift[1])


def random_condition(chance, size=2):
    numbers = f"{chance.randint(-size, size)} {chance.randint(-size, size)} {chance.randint(-3, 3)}"
    return f"least {numbers}" if chance.random() < 0.7 else f"rest {numbers} {chance.randint(2, 3)}"


def random_table(chance, land, most=3, size=2):
    """The text of a random table."""
    rows = []
    for goal in chance.sample(land.spots, chance.randint(1, len(land.spots))):
        rows.append(f"goal {goal}")
        for spot in land.spots:
            roads = land.roads_from(spot)
            for _ in range(chance.randint(0, most) if roads else 0):
                conditions = " ".join(random_condition(chance, size) for _ in range(chance.randint(1, 2)))
                rows.append(f"at {spot} if {conditions} go {chance.choice(roads).name}")
            if roads and chance.random() < 0.8:
                rows.append(f"at {spot} go {chance.choice(roads).name}")
    return "\n".join(rows)
