"""Maps of the kinds of which atlases are made."""

import itertools
import random

from alljourneys.maps import Map


def some_land(chance, spots, roads, size, dear, line=False):
    """A random map; with line, all shifts lie on one line through (0, 0)."""
    names = "abcdefghijklm"[:spots]
    rows = [f"spot {name}" for name in names]
    way = chance.choice(((1, 1), (1, 0), (0, -1), (2, -1)))
    for k in range(roads):
        x, y = chance.randint(-size, size), chance.randint(-size, size)
        if line:
            times = chance.randint(-size // max(map(abs, way)), size // max(map(abs, way)))
            x, y = times * way[0], times * way[1]
        rows.append(f"road r{k} {chance.choice(names)} {chance.choice(names)} {x} {y} {chance.randint(1, dear)}")
    return Map("\n".join(rows))


def ring_land(chance, spots, chords, size, dear):
    """A random ring of spots, with some more roads."""
    names = "abcdefghijklm"[:spots]
    rows = [f"spot {name}" for name in names]
    ends = [(names[k], names[(k + 1) % spots]) for k in range(spots)]
    ends += [(chance.choice(names), chance.choice(names)) for _ in range(chords)]
    for k, (start, end) in enumerate(ends):
        x, y = chance.randint(-size, size), chance.randint(-size, size)
        rows.append(f"road r{k} {start} {end} {x} {y} {chance.randint(1, dear)}")
    return Map("\n".join(rows))


# Small maps with what is easily passed over.
EDGES = [Map(text) for text in (
    "spot a",
    "spot a\nspot b",
    "spot a\nspot b\nroad r a b 1 2 3",
    "spot a\nroad r a a 0 0 1",
    "spot a\nroad r a a 1 0 2\nroad s a a 1 0 2\nroad t a a 1 0 2",
    "spot a\nroad r a a 2 0 1\nroad s a a -2 0 1\nroad t a a 0 2 1\nroad u a a 0 -2 1",
    "spot a\nroad r a a 2 0 1\nroad s a a 3 0 1\nroad t a a 0 2 1",
    "spot a\nspot b\nroad r a b 0 0 1\nroad s b b 1 0 1\nroad t b b 0 1 12\nroad u a a -1 0 1",
    "spot a\nspot b\nspot c\nroad r a b 0 0 1\nroad s b c 0 0 1\nroad t a a 1 2 3\nroad u b b -1 1 1\nroad v c c 0 -1 2",
    "spot a\nspot b\nroad r a b 1 0 1\nroad s b a 0 1 1\nroad t a b 1 0 1\nroad u b a 0 1 1",
    "spot a\nroad r a a 1 0 1\nroad s a a -1 0 1",
    "spot a\nroad r a a 2 1 1\nroad s a a -2 -1 12\nroad t a a 0 1 12\nroad u a a 0 -1 12",
)]


def many_lands(seed, count):
    """Maps of all the kinds, so many of each."""
    chance = random.Random(seed)
    lands = list(EDGES)
    for _ in range(count):
        lands.append(some_land(chance, 4, 12, 2, 12))
        lands.append(some_land(chance, 6, 24, 1, 12))
        lands.append(some_land(chance, 6, 24, 2, 12, True))
        lands.append(some_land(chance, 12, 14, 2, 12))
        lands.append(some_land(chance, chance.randint(1, 3), chance.randint(2, 8), 2, 12))
        lands.append(ring_land(chance, chance.randint(7, 11), 3, 2, 12))
        lands.append(ring_land(chance, 12, 2, 1, 12))
    return lands


def far_cells(chance, many):
    """Cells near and far, up to sixty digits away."""
    sizes = itertools.cycle((3, 12, 50, 10 ** 4, 10 ** 59))
    return [(chance.randint(-size, size), chance.randint(-size, size)) for size, _ in zip(sizes, range(many))]
