"""Maps of the kinds of which atlases are made."""

import itertools
import random

from alljourneys.maps import Map


def some_land(chance, spots, roads, size, dear, line=False):
    """A random map; with line, all shifts lie on one line through (0, 0)."""
    names = "abcdefghijklm"[:spots]
    rows = [f"spot {name}" for name in names]
    way = chance.choice(((1, 1), (1, 0), (0, -1), (2, -1)))
    for k in range(roads):
        x, y = chance.randint(-size, size), chance.randint(-size, size)
        if line:
            times = chance.randint(-size // max(map(abs, way)), size // max(map(abs, way)))
            x, y = times * way[0], times * way[1]
        rows.append(f"road r{k} {chance.choice(names)} {chance.choice(names)} {x} {y} {chance.randint(1, dear)}")
    return Map("\n".join(rows))


def ring_land(chance, spots, chords, size, dear):
    """A random ring of spots, with some more roads."""
    names = "abcdefghijklm"[:spots]
    rows = [f"spot {name}" for name in names]
    ends = [(names[k], names[(k + 1) % spots]) for k in range(spots)]
    ends += [(chance.choice(names), chance.choice(names)) for _ in range(chords)]
    for k, (start, end) in enumerate(ends):
        x, y = chance.randint(-size, size), chance.randint(-size, size)
        rows.append(f"road r{k} {start} {end} {x} {y} {chance.randint(1, dear)}")
    return Map("\n".join(rows))


# Small maps with what is easily passed over.
EDGES = [Map(text) for text in (
    "spot a",
    "spot a\nspot b",
    "spot a\nspot b\nroad r a b 1 2 3",
    "spot a\nroad r a a 0 0 1",
    "spot a\nroad r a a 1 0 2\nroad s a a 1 0 2\nroad t a a 1 0 2",
    "spot a\nroad r a a 2 0 1\nroad s a a -2 0 1\nroad t a a 0 2 1\nroad u a a 0 -2 1",
    "spot a\nroad r a a 2 0 1\nroad s a a 3 0 1\nroad t a a 0 2 1",
    "spot a\nspot b\nroad r a b 0 0 1\nroad s b b 1 0 1\nroad t b b 0 1 12\nroad u a a -1 0 1",
    "spot a\nspot b\nspot c\nroad r a b 0 0 1\nroad s b c 0 0 1\nroad t a a 1 2 3\nroad u b b -1 1 1\nroad v c c 0 -1 2",
    "spot a\nspot b\nroad r a b 1 0 1\nroad s b a 0 1 1\nroad t a b 1 0 1\nroad u b a 0 1 1",
    "spot a\nroad r a a 1 0 1\nroad s a a -1 0 1",
    "spot a\nroad r a a 2 1 1\nroad s a a -2 -1 12\nroad t a a 0 1 12\nroad u a a 0 -1 12",
)]


def many_lands(seed, count):
    """Maps of all the kinds, so many of each."""
    chance = random.Random(seed)
    lands = list(EDGES)
    for _ in range(count):
        lands.append(some_land(chance, 4, 12, 2, 12))
        lands.append(some_land(chance, 6, 24, 1, 12))
        lands.append(some_land(chance, 6, 24, 2, 12, True))
        lands.append(some_land(chance, 12, 14, 2, 12))
        lands.append(some_land(chance, chance.randint(1, 3), chance.randint(2, 8), 2, 12))
        lands.append(ring_land(chance, chance.randint(7, 11), 3, 2, 12))
        lands.append(ring_land(chance, 12, 2, 1, 12))
    return lands


def far_cells(chance, many):
    """Cells near and far, up to sixty digits away."""
    sizes = itertools.cycle((3, 12, 50, 10 ** 4, 10 ** 59))
    return [(chance.randint(-size, size), chance.randint(-size, size)) for size, _ in zip(sizes, range(many))]


def land_of(spots, roads):
    """A map by the names of its spots and the lines of its roads, without what all of these begin with."""
    return Map("\n".join([f"spot {spot}" for spot in spots.split()] + [f"road {road}" for road in roads.split("; ")]))


# Maps and starts with rounds that reach far before those that get on best take over.
FAR_LANDS = (
    ("a", land_of("a b c d e f g h i j k l", (
        "r0 a b -1 -1 6; r1 b c -2 2 12; r2 c d -1 -2 8; r3 d e -2 0 7; r4 e f 2 -2 1; r5 f g 1 0 4; r6 g h -1 -1 7; "
        "r7 h i -1 -1 3; r8 i j 2 -2 1; r9 j k -2 2 3; r10 k l 2 -1 12; r11 l a -1 -2 9; r12 g j 1 0 5; r13 b d 2 1 12"))),
    ("b", land_of("a b c d e f g h i j k l", (
        "r0 a b 1 2 2; r1 b c -2 -2 7; r2 c d -2 2 1; r3 d e -1 1 9; r4 e f -2 0 11; r5 f g -1 0 5; r6 g h -2 -2 2; "
        "r7 h i 0 0 9; r8 i j 1 2 5; r9 j k -2 0 2; r10 k l -1 1 11; r11 l a 2 1 8; r12 i a 1 -2 4; r13 b h 1 1 11"))),
    ("c", land_of("a b c d", (
        "r0 a a 2 -2 2; r1 d d 1 1 1; r2 b b 0 -2 2; r3 a a 2 1 2; r4 c b -1 2 2; r5 c a -1 -1 3; r6 d c -2 -2 3; "
        "r7 a c 1 2 2; r8 a a -1 0 1; r9 b b 1 -2 1; r10 a c -1 2 2; r11 b d -2 0 1"))),
)
