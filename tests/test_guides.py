import random
import unittest

from alljourneys.atlases import Atlas
from alljourneys.building import repriced, turned
from alljourneys.errors import NoSpot, Unlike
from alljourneys.guides import Guide, Loss, guide_holds, loss
from alljourneys.maps import Map, Road, map_of
from alljourneys.posts import Post, Posts, posts_hold, posts_of
from alljourneys.sheets import Sheet
from alljourneys.tables import Table

from atlas_lands import some_land
from helpers import ODD_VALUES, Odd, ahead, changed_trees, deepened, has_piece, leaves
from lands import error_of
from tables import behind, random_table, sections_of, told

GRID = Map("spot a\nroad r a a 1 0 2\nroad s a a -1 0 2\nroad t a a 0 1 3\nroad u a a 0 -1 3")
# Each road leads straight to the goal's column, then along it.
STRAIGHT = ("goal a\nat a if least -1 0 -1 go r\nat a if least 1 0 -1 go s\nat a if least 0 -1 -1 go t\n"
            "at a go u")
LANES = Map("spot a\nspot b\nroad fast a a 1 0 1\nroad slow b b 1 0 5\nroad drop a b 0 0 1")


def form_on(sheet, base, directions, number):
    """A linear number of the cells of a piece: at the base, and the changes by the directions."""
    start = number(*sheet.cell_of(base))
    return start, [number(*sheet.cell_of(ahead(base, direction, 1))) - start for direction in directions]


def condition_on(sheet, base, directions, condition):
    """True if a condition holds at all cells of a piece, False if it holds at none, None otherwise."""
    low, changes = form_on(sheet, base, directions, lambda x, y: condition[1] * x + condition[2] * y + condition[3])
    if condition[0] == "least":
        if low >= 0 and min(changes, default=0) >= 0:
            return True
        return False if low < 0 and max(changes, default=0) <= 0 else None
    if any(change % condition[4] for change in changes):
        return None
    return low % condition[4] == 0


def rule_fits(sheet, base, directions, rules, index):
    """Whether the rule with an index is the first one that fits at all cells of a piece."""
    return (all(condition_on(sheet, base, directions, condition) is True for condition in rules[index][0])
            and all(any(condition_on(sheet, base, directions, condition) is False for condition in conditions)
                    for conditions, _ in rules[:index]))


def led(back, goal, name):
    road = back.land.road_named(name)
    return [sheet.moved(road.shift, road.price) for sheet in back.sheets(goal, road.start)]


def is_count(value, items):
    return type(value) is int and 0 <= value < len(items)


def end_is_right(back, sections, most, place, sheet, leaf):
    """Whether an end of a Guide is right, by the words of the document; place is a tuple (goal, spot)."""
    (goal, spot), (base, directions, node) = place, leaf
    if node == ("there",):
        return spot == goal and not directions and sheet.cell_of(base) == (0, 0)
    rules = sections[goal].get(spot, [])
    if type(node) is not tuple or len(node) != 3 or node[0] != "go" or not is_count(node[1], rules):
        return False
    sheets = led(back, goal, rules[node[1]][1])
    return (is_count(node[2], sheets) and rule_fits(sheet, base, directions, rules, node[1])
            and has_piece(sheet.moved((0, 0), most), sheets[node[2]], base, directions))


def tree_is_right(steps, tree, fits):
    """Whether a value is a tree whose ends fit; trees of helpers are read by counts."""
    if type(tree) is not tuple:
        return False
    for node in tree:
        if type(node) is not tuple or not node or type(node[0]) is not str:
            return False
        if node[0] in ("peel", "parts"):
            if len(node) != 2 or type(node[1]) is not int or not 1 + (node[0] == "parts") <= node[1] <= len(tree):
                return False
        elif node[0] in ("diagonal", "turn") and len(node) != 1:
            return False
    try:
        found = leaves(steps, tree)
    except IndexError:
        return False
    return found is not None and all(fits(leaf) for leaf in found)


def guide_is_right(back, land, text, guide):
    """Whether a Guide of right kinds holds, by the words of the document."""
    sections = sections_of(land, text)
    for goal, row in zip(sections, guide.trees, strict=True):
        for spot, trees in zip(land.spots, row, strict=True):
            for sheet, tree in zip(back.sheets(goal, spot), trees, strict=True):
                if not tree_is_right(len(sheet.steps), tree, lambda leaf: end_is_right(
                        back, sections, guide.most, (goal, spot), sheet, leaf)):
                    return False
    return True


class LossTest(unittest.TestCase):
    def loss_at(self, back, land, sections, place, goal):
        """None for a place that is not judged, "lost", or the loss."""
        def least(here):
            return back.least_price((goal, 0, 0), here)

        if place == (goal, 0, 0) or least(place) is None:
            return None
        road = told(land, sections, place, (goal, 0, 0))
        if road is None or least(behind(place, road)) is None:
            return "lost"
        return road.price + least(behind(place, road)) - least(place)

    def judge(self, land, text, chance):
        table, back, sections = Table(land, text), Atlas(turned(land)), sections_of(land, text)
        found = loss(table, back)
        self.assertIsInstance(found, Loss)
        losses = []
        for goal in sections:
            for spot in land.spots:
                size = chance.choice((3, 6, 10 ** 30))
                cells = [(x, y) for x in range(-2, 3) for y in range(-2, 3)]
                cells += [(chance.randint(-size, size), chance.randint(-size, size)) for _ in range(12)]
                losses += [self.loss_at(back, land, sections, (spot, *cell), goal) for cell in cells]
        losses = [number for number in losses if number is not None]
        here = None if found.start is None else self.loss_at(back, land, sections, found.start, found.goal[0])
        if found.kind == "lost":
            self.assertEqual((here, found.most, found.way, found.guide, found.goal[1:]), ("lost", None, None, None, (0, 0)))
            return found
        self.assertNotIn("lost", losses)
        if found.kind == "endless":
            self.assertEqual((found.most, found.guide, found.goal[1:]), (None, None, (0, 0)))
            for k in (0, 1, 2, 9, 10 ** 40):
                place = (found.start[0], found.start[1] + k * found.way[0], found.start[2] + k * found.way[1])
                self.assertGreaterEqual(self.loss_at(back, land, sections, place, found.goal[0]), k)
            return found
        self.assertEqual((found.kind, found.way), ("bounded", None))
        self.assertTrue(all(number <= found.most for number in losses))
        self.assertIsInstance(found.guide, Guide)
        self.assertEqual(found.guide.most, found.most)
        if found.start is None:
            self.assertEqual((found.goal, found.most, losses), (None, 0, []))
        else:
            self.assertEqual((here, found.goal[1:]), (found.most, (0, 0)))
        self.assertIs(guide_holds(table, back, found.guide), True)
        self.assertTrue(guide_is_right(back, land, text, found.guide))
        return found

    def test_random(self):
        """[83] [85] Losses of random tables, judged place by place; guides judged by sums."""
        chance = random.Random(85)
        kinds = {}
        for _ in range(120):
            land = some_land(chance, chance.randint(1, 2), chance.randint(1, 5), 1, 4)
            found = self.judge(land, random_table(chance, land, 2, 1), chance)
            kinds[found.kind] = kinds.get(found.kind, 0) + 1
        self.assertGreater(min(kinds["lost"], kinds["bounded"]), 20)

    def test_by_hand(self):
        """[83] [85] Lost places, endless and bounded losses, no judged place."""
        chance = random.Random(58)
        found = self.judge(GRID, STRAIGHT, chance)
        self.assertEqual((found.kind, found.most), ("bounded", 0))
        self.assertEqual(self.judge(GRID, "goal a\nat a go r", chance).most, 4)
        self.assertEqual(self.judge(GRID, STRAIGHT.replace("least 1 0 -1", "least 1 0 -3"), chance).most, 6)
        found = self.judge(GRID, STRAIGHT.replace("at a go u", "at a if rest 0 1 0 2 go u"), chance)
        self.assertEqual((found.kind, found.start[2] % 2), ("lost", 1))
        found = self.judge(LANES, "goal b\nat a go drop\nat b go slow", chance)
        self.assertEqual((found.kind, found.start[0]), ("endless", "a"))
        found = self.judge(LANES, "goal b\nat a if least -1 0 -1 go fast\nat a go drop\nat b go slow", chance)
        self.assertEqual((found.kind, found.most), ("bounded", 0))
        found = self.judge(LANES, "goal b\nat a if least -1 0 -4 go fast\nat a go drop\nat b go slow", chance)
        self.assertEqual((found.kind, found.most), ("bounded", 12))
        found = self.judge(LANES, "goal b\nat a go fast\nat b go slow", chance)
        self.assertEqual((found.kind, found.start[0]), ("lost", "a"))
        for land, text in ((GRID, ""), (LANES, " \n"), (Map("spot a\nspot b"), "goal a\ngoal b"),
                           (Map("spot a\nspot b\nroad r a b 0 0 1"), "goal a")):
            found = self.judge(land, text, chance)
            self.assertEqual((found.kind, found.most, found.start), ("bounded", 0, None))
        self.assertEqual(self.judge(Map("spot a\nroad r a a 0 0 1\nroad s a a 1 0 1"), "goal a\nat a go r", chance).most, 1)

    def test_guides(self):
        """[84] Guides with a part that is changed, and values of other kinds."""
        chance = random.Random(84)
        cases = [(GRID, STRAIGHT), (GRID, "goal a\nat a if rest 1 1 0 2 go t\nat a if least 1 0 0 go r\nat a go s"),
                 (LANES, "goal a\nat a if least -1 0 -1 go fast\nat a go drop\ngoal b\n"
                         "at a if least -1 0 -4 least 0 1 0 go fast\nat a if least 1 0 9 least 0 0 -1 go fast\n"
                         "at a go drop\nat b go slow")]
        found = {True: 0, False: 0}
        for land, text in cases:
            table, back = Table(land, text), Atlas(turned(land))
            good = loss(table, back).guide
            self.assertTrue(guide_holds(table, back, Guide(good.most + 7, good.trees)))
            self.assertIs(guide_holds(table, back, good.trees), False)
            for value in ODD_VALUES + (Table, land):
                self.assertIs(guide_holds(table, back, value), False)
                self.assertIs(guide_holds(table, back, Guide(good.most, value)), False)
            for most in (True, False, -1, None, "1", 1.0, Odd(), (good.most,)):
                self.assertFalse(guide_holds(table, back, Guide(most, good.trees)))
            self.assertFalse(guide_holds(table, back, Guide(good.most, list(good.trees))))
            self.assertFalse(guide_holds(table, back, Guide(good.most, good.trees + good.trees[:1])))
            self.assertFalse(guide_holds(table, back, Guide(good.most, good.trees[1:])))
            for at, row in enumerate(good.trees):
                for wrong in (list(row), row[1:], row + row[:1], None):
                    trees = good.trees[:at] + (wrong,) + good.trees[at + 1:]
                    self.assertFalse(guide_holds(table, back, Guide(good.most, trees)))
                for where, trees in enumerate(row):
                    for number, tree in enumerate(trees):
                        for other in self.changed(chance, tree):
                            told_trees = trees[:number] + (other,) + trees[number + 1:]
                            changed = row[:where] + (told_trees,) + row[where + 1:]
                            guide = Guide(good.most, good.trees[:at] + (changed,) + good.trees[at + 1:])
                            right = guide_is_right(back, land, text, guide)
                            self.assertIs(guide_holds(table, back, guide), right)
                            found[right] += 1
        self.assertGreater(min(found.values()), 3)

    def changed(self, chance, tree):
        """The tree, and trees with one node changed; some nodes have other numbers, or are of other kinds."""
        yield tree
        yield list(tree)
        yield from changed_trees(chance, tree, 30)
        odd = [("there",), ("go", 0, 0), ("go", 1, 0), ("go", 0, 1), ("go", 2, 0), ("go", True, 0), ("go", 0, False),
               ["go", 0, 0], ("go", 0), ("go", 0, 0, 0), ("go", -1, 0), ("go", 0, -1), ("go", 0, 99), ("end", 0),
               ("there", 0), ("go", "0", 0), ("go", Odd(), 0), ("go", 0, Odd()), Odd()]
        for at, node in enumerate(tree):
            for new in odd:
                yield tree[:at] + (new,) + tree[at + 1:]
            if node[0] == "go":
                yield tree[:at] + (("peel", 1), node, node) + tree[at + 1:]

    def test_deep(self):
        """[84] Trees 1,200 nodes deep."""
        table, back = Table(GRID, STRAIGHT), Atlas(turned(GRID))
        good = loss(table, back).guide
        trees = good.trees[0][0]
        found = 0
        for number, tree in enumerate(trees):
            for at in [at for at, node in enumerate(tree) if node[0] == "go"]:
                deep = deepened(tree, at, 1200)
                guide = Guide(good.most, ((trees[:number] + (deep,) + trees[number + 1:],),))
                if guide_holds(table, back, guide):
                    found += 1
                    wrong = deep[:2000] + (("go", 9, 9),) + deep[2001:]
                    guide = Guide(good.most, ((trees[:number] + (wrong,) + trees[number + 1:],),))
                    self.assertFalse(guide_holds(table, back, guide))
                else:
                    # The piece has no direction by which it could be peeled.
                    guide = Guide(good.most, ((trees[:number] + (deepened(tree, at, 1),) + trees[number + 1:],),))
                    self.assertFalse(guide_holds(table, back, guide))
        self.assertGreater(found, 3)

    def test_errors(self):
        """[84] [85] Unlike for an atlas of any other map than the turned one."""
        table = Table(GRID, STRAIGHT)
        good = loss(table, Atlas(turned(GRID))).guide
        for land in (GRID, turned(repriced(GRID, "r", 1)), map_of(["a"], turned(GRID).roads[::-1]), LANES):
            self.assertEqual(error_of(loss, table, Atlas(land)), (Unlike, "back"))
            self.assertEqual(error_of(guide_holds, table, Atlas(land), good), (Unlike, "back"))
            self.assertEqual(error_of(guide_holds, table, Atlas(land), None), (Unlike, "back"))


def posts_are_right(back, land, told_posts):
    """Whether Posts of right kinds hold, by the words of the document."""
    goal, posts = told_posts.goal, told_posts.posts
    first = posts[0]
    if (first.spot, first.sheet, first.road) != (goal, Sheet((0, 0), 0), None):
        return False
    for post, tree in zip(posts[1:], told_posts.steps, strict=True):
        if land.road_named(post.road).start != post.spot:
            return False
        sheets = led(back, goal, post.road)
        if not tree_is_right(len(post.sheet.steps), tree, lambda leaf: end_holds(post.sheet, sheets, leaf)):
            return False
    for spot, trees in zip(land.spots, told_posts.covers, strict=True):
        sheets = [post.sheet for post in posts if post.spot == spot]
        for sheet, tree in zip(back.sheets(goal, spot), trees, strict=True):
            if not tree_is_right(len(sheet.steps), tree, lambda leaf: end_holds(sheet, sheets, leaf)):
                return False
    return True


def end_holds(sheet, sheets, leaf):
    base, directions, node = leaf
    return (type(node) is tuple and len(node) == 2 and node[0] == "end" and is_count(node[1], sheets)
            and has_piece(sheet, sheets[node[1]], base, directions))


class PostTest(unittest.TestCase):
    def test_random(self):
        """[86] [87] Posts of random maps: trees judged by sums; told roads begin cheapest journeys."""
        chance = random.Random(87)
        for _ in range(40):
            land = some_land(chance, chance.randint(1, 3), chance.randint(0, 7), chance.choice((1, 2)), 6)
            back, atlas = Atlas(turned(land)), Atlas(land)
            for goal in land.spots:
                told_posts = posts_of(back, goal)
                self.assertIsInstance(told_posts, Posts)
                self.assertIs(posts_hold(back, told_posts), True)
                self.assertTrue(posts_are_right(back, land, told_posts))
                self.judge(atlas, goal, told_posts, chance)

    def judge(self, atlas, goal, told_posts, chance):
        for spot in atlas.land.spots:
            for size in (2, 2, 2, 5, 5, 10 ** 30):
                cell = (chance.randint(-size, size), chance.randint(-size, size))
                rows = [(post.sheet.price_at(cell), post.road) for post in told_posts.posts
                        if post.spot == spot and cell in post.sheet]
                price = atlas.least_price((spot, *cell), (goal, 0, 0))
                self.assertEqual(min((row[0] for row in rows), default=None), price)
                firsts = atlas.first_roads((spot, *cell), (goal, 0, 0))
                self.assertTrue(all(road in firsts for least, road in rows if least == price and road is not None))

    def test_hold(self):
        """[86] [87] Posts with a part that is changed, and values of other kinds."""
        chance = random.Random(86)
        for land in (GRID, LANES, some_land(chance, 2, 5, 1, 4)):
            back = Atlas(turned(land))
            goal = land.spots[-1]
            good = posts_of(back, goal)
            posts, steps, covers = good.posts, good.steps, good.covers
            for value in ODD_VALUES + (posts, Post, land):
                self.assertIs(posts_hold(back, value), False)
                for wrong in ((value, posts, steps, covers), (goal, value, steps, covers), (goal, posts, value, covers),
                              (goal, posts, steps, value)):
                    if wrong != (goal, posts, steps, covers) and not (wrong[2] == () and len(posts) == 1):
                        self.assertFalse(posts_hold(back, Posts(*wrong)), wrong)
            self.assertFalse(posts_hold(back, Posts(goal, list(posts), steps, covers)))
            self.assertIs(posts_hold(back, Posts(goal, posts[::-1], steps, covers)), len(posts) == 1)
            first = Post(goal, Sheet((0, 0), 0), None)
            for wrong in (Post(goal, Sheet((0, 0), 1), None), Post(goal, Sheet((0, 0), -1), None),
                          Post(goal, Sheet((0, 1), 0), None), Post(goal, Sheet((0, 0), 0, ((1, 0),), (1,)), None),
                          Post("z", first.sheet, None), Post(goal, first.sheet, "r"), Post(goal, first.sheet, False),
                          Post(Odd(), first.sheet, None), Post(goal, Odd(), None), Odd(), (goal, first.sheet, None)):
                self.assertFalse(posts_hold(back, Posts(goal, (wrong,) + posts[1:], steps, covers)))
            for at, post in enumerate(posts[1:], 1):
                for wrong in (Post("z", post.sheet, post.road), Post(post.spot, post.sheet.moved((0, 0), -1), post.road),
                              Post(post.spot, post.sheet.moved((1, 0), 0), post.road), Post(post.spot, post.sheet, None),
                              Post(post.spot, post.sheet, "z"), Post(post.spot, None, post.road), None,
                              Post(post.spot, post.sheet, Odd()), Post(post.spot, Sheet((0, None), 0), post.road)):
                    self.assertFalse(posts_hold(back, Posts(goal, posts[:at] + (wrong,) + posts[at + 1:], steps, covers)))
            self.judge_trees(back, land, good, chance)

    def judge_trees(self, back, land, good, chance):
        for at, tree in enumerate(good.steps):
            for other in changed_trees(chance, tree, 12):
                changed = Posts(good.goal, good.posts, good.steps[:at] + (other,) + good.steps[at + 1:], good.covers)
                self.assertIs(posts_hold(back, changed), posts_are_right(back, land, changed))
        for at, trees in enumerate(good.covers):
            for number, tree in enumerate(trees):
                for other in changed_trees(chance, tree, 12):
                    row = trees[:number] + (other,) + trees[number + 1:]
                    changed = Posts(good.goal, good.posts, good.steps, good.covers[:at] + (row,) + good.covers[at + 1:])
                    self.assertIs(posts_hold(back, changed), posts_are_right(back, land, changed))

    def test_deep(self):
        """[86] Trees 1,200 nodes deep."""
        back = Atlas(turned(GRID))
        good = posts_of(back, "a")
        found = 0
        for number, tree in enumerate(good.covers[0]):
            deep = deepened(tree, len(tree) - 1, 1200)
            covers = (good.covers[0][:number] + (deep,) + good.covers[0][number + 1:],)
            found += posts_hold(back, Posts(good.goal, good.posts, good.steps, covers))
            covers = (good.covers[0][:number] + (deep[:-1] + (("end", -1),),) + good.covers[0][number + 1:],)
            self.assertFalse(posts_hold(back, Posts(good.goal, good.posts, good.steps, covers)))
        for number, tree in enumerate(good.steps):
            steps = good.steps[:number] + (deepened(tree, 0, 1200),) + good.steps[number + 1:]
            found += posts_hold(back, Posts(good.goal, good.posts, steps, good.covers))
        self.assertGreater(found, 7)

    def test_errors(self):
        """[87] A goal that is no spot."""
        back = Atlas(turned(LANES))
        for spot in ("z", "fast", None, 1, True, ["a"], Odd()):
            self.assertEqual(error_of(posts_of, back, spot)[0], NoSpot)
        lone = Atlas(map_of(["a", "b"], [Road("r", "a", "a", (0, 0), 1)]))
        self.assertEqual([post.road for post in posts_of(lone, "b").posts], [None])


if __name__ == "__main__":
    unittest.main()
