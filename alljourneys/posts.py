"""Tables that are cheapest from everywhere, told by sheets."""

from alljourneys.checks import is_spot, require_spot
from alljourneys.fans import is_sheet
from alljourneys.forms import gauges_of, whole
from alljourneys.guides import led_sheets
from alljourneys.searching import searched_by
from alljourneys.sheets import Sheet
from alljourneys.takers import EXACT, takers_of
from alljourneys.trees import tree_over


class Post:
    """Bearings of places of a spot, and the road to take there."""

    def __init__(self, spot, sheet, road):
        self.spot = spot
        self.sheet = sheet
        self.road = road


class Posts:
    """Posts for a goal, and trees that show that they are cheapest from everywhere."""

    def __init__(self, goal, posts, steps, covers):
        self.goal = goal
        self.posts = posts
        self.steps = steps
        self.covers = covers


class Offer:
    """A post that is cheapest where its sheet is: the step tree is the end with this index."""

    def __init__(self, post, index):
        self.post = post
        self.index = index


def _offers(back, goal, spot):
    """The list of the Offers for a spot: for each road from there, one for each sheet of the bearings of its end."""
    offers = [Offer(Post(goal, Sheet((0, 0), 0), None), None)] if spot == goal else []
    for road in back.land.roads:
        if road.end == spot:
            for index, sheet in enumerate(led_sheets(back, goal, road.name)):
                offers.append(Offer(Post(spot, sheet, road.name), index))
    return offers


def _renumbered(tree, numbers):
    """A tree with other indexes in its ends."""
    return tuple([("end", numbers[node[1]]) if node[0] == "end" else node for node in tree])


def _served(back, goal, spot):
    """A tuple of the Offers for a spot that are of use, and of trees by which they have all that leads to the goal."""
    offers = _offers(back, goal, spot)
    takers = takers_of([offer.post.sheet for offer in offers])
    trees = [searched_by(whole(sheet), takers, EXACT)[0] for sheet in back.sheets(goal, spot)]
    used = {node[1]: True for tree in trees for node in tree if node[0] == "end"}
    kept = [at for at, offer in enumerate(offers) if at in used or offer.index is None]
    numbers = {at: number for number, at in enumerate(kept)}
    return [offers[at] for at in kept], tuple([_renumbered(tree, numbers) for tree in trees])


def posts_of(back, goal):
    """Posts for a goal that hold."""
    require_spot(back.land, goal)
    served = [_served(back, goal, spot) for spot in back.land.spots]
    offers = [offer for row, _ in served for offer in row]
    ahead = [offer for offer in offers if offer.index is None] + [offer for offer in offers if offer.index is not None]
    steps = tuple([(("end", offer.index),) for offer in ahead[1:]])
    return Posts(goal, tuple([offer.post for offer in ahead]), steps, tuple([trees for _, trees in served]))


def _are_posts(back, goal, posts):
    """Whether any value is a tuple of Posts of right kinds, the first one for the goal itself."""
    if not isinstance(posts, tuple) or not posts or not all([isinstance(post, Post) for post in posts]):
        return False
    first = posts[0]
    if not is_spot(back.land, first.spot) or first.spot != goal or not is_sheet(first.sheet) or first.road is not None:
        return False
    if first.sheet != Sheet((0, 0), 0):
        return False
    for post in posts[1:]:
        if not is_spot(back.land, post.spot) or not is_sheet(post.sheet) or not isinstance(post.road, str):
            return False
        if post.road not in [road.name for road in back.land.roads if road.end == post.spot]:
            return False
    return True


def posts_hold(back, posts):
    """Whether any value is Posts that hold for an atlas of a turned map."""
    if not isinstance(posts, Posts) or not is_spot(back.land, posts.goal):
        return False
    goal, steps, covers = posts.goal, posts.steps, posts.covers
    if not _are_posts(back, goal, posts.posts):
        return False
    if not isinstance(steps, tuple) or len(steps) != len(posts.posts) - 1:
        return False
    for post, tree in zip(posts.posts[1:], steps):
        if not tree_over(post.sheet, gauges_of(led_sheets(back, goal, post.road)), tree):
            return False
    if not isinstance(covers, tuple) or len(covers) != len(back.land.spots):
        return False
    for spot, trees in zip(back.land.spots, covers):
        sheets = back.sheets(goal, spot)
        if not isinstance(trees, tuple) or len(trees) != len(sheets):
            return False
        gauges = gauges_of([post.sheet for post in posts.posts if post.spot == spot])
        if not all([tree_over(sheet, gauges, tree) for sheet, tree in zip(sheets, trees)]):
            return False
    return True
