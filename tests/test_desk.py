import random
import unittest

from alljourneys.atlases import Atlas
from alljourneys.building import repriced, turned, with_road, without
from alljourneys.changes import change
from alljourneys.checks import is_name
from alljourneys.covers import Cover, covered
from alljourneys.desk import Desk
from alljourneys.errors import (BadName, BadNumber, BadPromise, BadText, Broken, JourneyError, NoMap, NoRoad, NothingToRedo,
                                NothingToUndo, NotKept, TakenName, TooMany)
from alljourneys.guides import loss
from alljourneys.maps import Map
from alljourneys.rings import Levels, ring_of
from alljourneys.routes import gone
from alljourneys.sheets import Sheet
from alljourneys.tables import Table

from helpers import ODD_VALUES, Odd
from lands import error_of
from tables import behind, sections_of, told

ONE = "spot a\nroad r a a 1 0 2\nroad s a a -1 0 2\n"
TWO = "spot a\nspot b\nroad r a b 1 0 3\nroad s b a 0 1 2\nroad t a a -1 -1 1\n"
EAST = "spot a\nroad r a a 1 0 2\n"
WIDE = "".join(f"spot s{k}\n" for k in range(13))
LINE = "goal a\nat a if least -1 0 -1 go r\nat a go s\n"
ROW = Sheet((0, 0), 0, ((1, 0),), (2,))
PROMISES = (
    ("within", "m", "a", "a", ROW), ("within", "n", "a", "a", Sheet((0, 0), 9, ((-1, 0),), (2,))),
    ("within", "m", "a", "b", Sheet((1, 0), 3)), ("within", "k", "a", "a", Sheet((0, 0), 0)),
    ("table", "m", LINE), ("table", "n", "goal a\nat a go r"), ("table", "n", "goal z"),
    ("calm", "m"), ("calm", "n"), ("rise", "n", 0), ("rise", "n", 2), ("rise", "k", 30), ("rise", "m", 1))
NO_PROMISES = ODD_VALUES + (
    ("calm",), ("calm", "M"), ("calm", "a."), ("calm", None), ("calm", "m", 0), ["calm", "m"], ("calmer", "m"), ("rise", "m"),
    ("rise", "m", -1), ("rise", "m", True), ("rise", "m", "1"), ("rise", "m", 1.0), ("rise", "m", Odd()), (Odd(), "m"),
    ("table", "m", None), ("table", "m", b""), ("table", "m"), ("table", Odd(), ""), ("within", "m", "a", "a"),
    ("within", "m", "a", "a", None), ("within", "m", None, "a", ROW), ("within", "m", "a", 1, ROW),
    ("within", "m", "a", "a", ROW, 0), ("within", "m", "a", "a", Odd()), ("within", "", "a", "a", ROW),
    ("within", "m", "a", "a", Sheet((0, 0), True)), ("within", "m", "a", "a", Sheet([0, 0], 1)))
NO_NAMES = ("", "M", "1m", "m.", "m..n", "m" * 41, None, 1, True, ["m"], ("m",), Odd())


def is_kept(maps, promise):
    """Whether a promise holds, by the words of the document and other parts of the package."""
    kind, name = promise[:2]
    land = maps[name][0] if name in maps else None
    if land is None:
        return False
    if kind == "calm":
        return isinstance(ring_of(land), Levels)
    if kind == "within":
        _, _, start, goal, sheet = promise
        if start not in land.spots or goal not in land.spots:
            return False
        return isinstance(covered(sheet, Atlas(land).sheets(start, goal)), Cover)
    if kind == "table":
        if sections_of(land, promise[2]) is None:
            return False
        found = loss(Table(land, promise[2]), Atlas(turned(land)))
        return found.kind == "bounded" and found.most == 0
    parent = maps[name][1]
    if parent is None or not set(maps[parent][0].spots) <= set(land.spots):
        return False
    old, new = Atlas(maps[parent][0]), Atlas(land)
    found = [change(old, new, start, goal) for start in old.land.spots for goal in old.land.spots]
    return all(row.kind == "none" or (row.kind == "bounded" and row.most <= promise[2]) for row in found)


def is_witness(maps, promise, place):
    """Whether a place is a witness of a promise that does not hold, by the words of the document."""
    kind, name = promise[:2]
    land, parent = maps.get(name, (None, None))
    if land is None or (kind == "rise" and (parent is None or not set(maps[parent][0].spots) <= set(land.spots))):
        return place is None
    if kind == "calm":
        spot, legs = place
        return gone(land, (spot, 0, 0), legs)[0] == (spot, 0, 0) and len(legs) > 0
    if kind == "within":
        if promise[2] not in land.spots or promise[3] not in land.spots:
            return place is None
        price = Atlas(land).least_price((promise[2], 0, 0), place)
        return place[0] == promise[3] and (price is None or price > promise[4].price_at(place[1:]))
    if kind == "table":
        sections = sections_of(land, promise[2])
        if sections is None:
            return place is None
        here, goal = place
        atlas = Atlas(land)
        least = atlas.least_price(here, goal)
        road = told(land, sections, here, goal)
        if goal[0] not in sections or here == goal or least is None:
            return False
        rest = None if road is None else atlas.least_price(behind(here, road), goal)
        return rest is None or rest + road.price > least
    start, goal = place
    old, new = Atlas(maps[parent][0]).least_price(start, goal), Atlas(land).least_price(start, goal)
    return old is not None and (new is None or new > old + promise[2])


class Model:
    """A desk that copies all that it has, by the words of the document. Rows are [name, map, parent]."""

    def __init__(self):
        self.rows, self.kept = [], []
        self.past, self.future = [], []
        self.depth = 0

    def state(self):
        return [list(row) for row in self.rows], list(self.kept)

    def restore(self, state):
        self.rows, self.kept = [list(row) for row in state[0]], list(state[1])

    def maps(self):
        return {row[0]: (row[1], row[2]) for row in self.rows}

    def row(self, name):
        for row in self.rows:
            if type(name) is str and row[0] == name:
                return row
        raise NoMap(name)

    def new(self, name):
        if not is_name(name):
            raise BadName(name)
        if name in self.maps():
            raise TakenName(name)

    def look(self):
        for promise in self.kept:
            if not is_kept(self.maps(), promise):
                raise Broken(promise, self.maps())

    def edit(self, kind, *values):
        before = self.state()
        try:
            getattr(self, "do_" + kind)(*values)
            if self.depth == 0:
                self.look()
        except BaseException:
            self.restore(before)
            raise
        self.past, self.future = self.past + [before], []

    def do_put(self, new, text):
        self.new(new)
        self.rows.append([new, Map(text), None])

    def do_branch(self, name, new):
        land = self.row(name)[1]
        self.new(new)
        self.rows.append([new, land, name])

    def do_remake(self, name, text):
        row = self.row(name)
        row[1] = Map(text)

    def do_close(self, name, road):
        self.row(name)[1] = without(self.row(name)[1], [road])

    def do_lay(self, name, line):
        self.row(name)[1] = with_road(self.row(name)[1], line)

    def do_reprice(self, name, road, price):
        self.row(name)[1] = repriced(self.row(name)[1], road, price)

    def do_drop(self, name):
        parent = self.row(name)[2]
        self.rows = [[row[0], row[1], parent if row[2] == name else row[2]] for row in self.rows if row[0] != name]

    def do_rename(self, name, new):
        self.row(name)
        self.new(new)
        self.rows = [[new if row[0] == name else row[0], row[1], new if row[2] == name else row[2]] for row in self.rows]
        kept = [(promise[0], new) + promise[2:] if promise[1] == name else promise for promise in self.kept]
        self.kept = [promise for at, promise in enumerate(kept) if promise not in kept[:at]]

    def do_keep(self, promise):
        self.kept += [] if promise in self.kept else [promise]

    def do_release(self, promise):
        if promise not in self.kept:
            raise NotKept(promise)
        self.kept.remove(promise)

    def undo(self):
        if not self.past:
            raise NothingToUndo()
        self.future.append(self.state())
        self.restore(self.past.pop())

    def redo(self):
        if not self.future:
            raise NothingToRedo()
        self.past.append(self.state())
        self.restore(self.future.pop())

    def framed(self, action, is_trial):
        before, past, future = self.state(), self.past, self.future
        self.past, self.future = [], []
        self.depth += 1
        try:
            action(self)
            if self.depth == 1 and not is_trial:
                self.look()
        except BaseException:
            self.restore(before)
            self.past, self.future = past, future
            raise
        finally:
            self.depth -= 1
        if is_trial:
            self.restore(before)
            self.past, self.future = past, future
        else:
            self.past, self.future = past + [before], []


class Stop(Exception):
    pass


EDITS = ("put", "branch", "remake", "close", "lay", "reprice", "drop", "rename", "keep", "release")


def random_step(chance, depth=0):
    """A random call, as a tuple of its kind and its values, or a frame with steps."""
    names = ("m", "n", "k", "m", "n", "zz")
    name, new = chance.choice(names), chance.choice(names + ("", "M", None))
    kind = chance.choice(EDITS + ("undo", "undo", "redo", "redo", "put", "branch", "keep", "reprice"))
    if depth < 3 and chance.random() < 0.2:
        steps = tuple(random_step(chance, depth + 1) for _ in range(chance.randint(0, 4)))
        return chance.choice(("attempt", "tried", "with")), steps, chance.choice((None, None, None, Stop, KeyError, NoRoad))
    text = chance.choice((ONE, TWO, EAST, ONE, "spot", ""))
    values = {"put": (new, text), "branch": (name, new), "remake": (name, text), "close": (name, chance.choice(("r", "s", "t", None))),
              "lay": (name, chance.choice((f"road q{chance.randrange(9)} a a 0 0 1", "road p a a 1 0 1", "road"))),
              "reprice": (name, chance.choice("rst"), chance.choice((1, 2, 3, 9, 0, None))), "drop": (name,),
              "rename": (name, new), "keep": (chance.choice(PROMISES),), "release": (chance.choice(PROMISES),)}
    return (kind,) + values.get(kind, ())


def told_error(error, maps):
    """An error as a tuple; of Broken, whether its witness is right."""
    if isinstance(error, Broken):
        witness = error.place
        return (Broken, error.promise, True if type(witness) is dict else is_witness(maps, error.promise, witness))
    return (type(error),) + tuple(vars(error).values())


class Runner:
    """Runs steps on a desk and on a model, and notes what comes of them; errors end only the frame around them."""

    def __init__(self, desk):
        self.desk = desk
        self.notes = []

    def call(self, kind, *values):
        if isinstance(self.desk, Desk):
            getattr(self.desk, kind)(*values)
        elif kind in ("undo", "redo"):
            getattr(self.desk, kind)()
        else:
            self.desk.edit(kind, *values)

    def frame(self, kind, steps, error):
        def action(desk):
            assert desk is self.desk
            for step in steps:
                self.run(step)
            self.note_state()
            if error is not None:
                raise error("x")

        if not isinstance(self.desk, Desk):
            self.desk.framed(action, kind != "attempt")
        elif kind == "with":
            with self.desk as it:
                action(it)
        else:
            getattr(self.desk, kind)(action)

    def run(self, step):
        known = None
        if isinstance(self.desk, Desk) and step[0] in EDITS:
            known = self.after(step)
        try:
            if step[0] in ("attempt", "tried", "with"):
                self.frame(*step)
            else:
                self.call(*step)
            self.notes.append("done")
        except (JourneyError, Stop, KeyError) as error:
            self.notes.append(told_error(error, self.last if known is None else known))
        self.note_state()

    def after(self, step):
        """What the maps of the desk would be behind a step, to judge a witness by."""
        model = Model()
        model.rows = [[name, self.desk.map_of_name(name), self.desk.parent(name)] for name in self.desk.maps()]
        model.kept = list(self.desk.promises())
        model.depth = 1
        try:
            model.edit(*step)
        except JourneyError:
            pass
        return model.maps()

    def note_state(self):
        if isinstance(self.desk, Desk):
            self.last = {name: (self.desk.map_of_name(name), self.desk.parent(name)) for name in self.desk.maps()}
            self.notes.append(([(name, land.text, parent) for name, (land, parent) in self.last.items()],
                               list(self.desk.promises())))
        else:
            self.last = self.desk.maps()
            self.notes.append(([(row[0], row[1].text, row[2]) for row in self.desk.rows], list(self.desk.kept)))


class HistoryTest(unittest.TestCase):
    def test_random(self):
        """[92] to [98] Random histories with attempts and trials within one another, beside a desk that copies all."""
        chance = random.Random(92)
        seen = {}
        for _ in range(150):
            desk, model = Runner(Desk()), Runner(Model())
            for number in range(30):
                step = random_step(chance) if number > 2 else (("put", "m", ONE), ("branch", "m", "n"), ("put", "k", TWO))[number]
                count = len(desk.notes)
                desk.run(step)
                model.run(step)
                self.assertEqual(desk.notes[count:], model.notes[count:], step)
                for note in desk.notes[count:]:
                    kind = note[0].__name__ if type(note) is tuple and type(note[0]) is type else "done"
                    seen[kind] = seen.get(kind, 0) + 1
                self.judge(desk.desk, model.desk, chance)
        for kind in ("Broken", "NoMap", "TakenName", "NothingToUndo", "NothingToRedo", "NotKept", "Stop", "KeyError", "NoRoad"):
            self.assertGreater(seen[kind], 3, kind)

    def judge(self, desk, model, chance):
        maps = model.maps()
        self.assertEqual(desk.broken(), ())
        for name in maps:
            line = [name]
            while maps[line[-1]][1] is not None:
                line.append(maps[line[-1]][1])
            self.assertEqual(desk.ancestors(name), tuple(line))
            self.assertEqual(desk.children(name), tuple(row[0] for row in model.rows if row[2] == name))
        promise = chance.choice(PROMISES)
        holds, place = desk.looked_at(promise)
        self.assertIs(holds, is_kept(maps, promise))
        self.assertTrue(place is None if holds else is_witness(maps, promise, place), (promise, place))

    def test_forty_edits(self):
        """[95] Forty edits undone and done again; an edit ends what can be done again."""
        desk = Desk()
        desk.put("m", ONE)
        texts = [desk.map_of_name("m").text]
        for price in range(1, 41):
            desk.reprice("m", "r", price)
            texts.append(desk.map_of_name("m").text)
        for text in texts[-2::-1]:
            desk.undo()
            self.assertEqual(desk.map_of_name("m").text, text)
        desk.undo()
        self.assertEqual(desk.maps(), ())
        self.assertEqual(error_of(desk.undo), (NothingToUndo,))
        for text in texts:
            desk.redo()
            self.assertEqual(desk.map_of_name("m").text, text)
        self.assertEqual(error_of(desk.redo), (NothingToRedo,))
        for _ in range(5):
            desk.undo()
        self.assertEqual(error_of(desk.close, "m", "z"), (NoRoad, "z"))
        desk.redo()
        desk.reprice("m", "r", 37)
        self.assertEqual(error_of(desk.redo), (NothingToRedo,))
        desk.undo()
        self.assertEqual(desk.map_of_name("m").text, texts[36])


class FrameTest(unittest.TestCase):
    def test_attempts(self):
        """[96] What is told is returned; promises are looked at when the outermost attempt ends."""
        desk = Desk()
        desk.put("m", ONE)
        desk.keep(("within", "m", "a", "a", ROW))
        seen = []

        def action(it):
            self.assertIs(it, desk)
            self.assertEqual(error_of(it.undo), (NothingToUndo,))
            it.reprice("m", "r", 9)
            seen.append(it.broken())
            it.attempt(lambda again: again.branch("m", "n"))
            self.assertIsNone(it.tried(lambda again: again.drop("n")))
            it.undo()
            it.redo()
            it.reprice("m", "r", 1)
            return "told"

        self.assertEqual(desk.attempt(action), "told")
        self.assertEqual([(promise, holds is not None) for promise, holds in seen[0]], [(("within", "m", "a", "a", ROW), True)])
        self.assertEqual((desk.maps(), desk.parent("n"), desk.broken()), (("m", "n"), "m", ()))
        desk.undo()
        self.assertEqual((desk.maps(), desk.map_of_name("m").text), (("m",), ONE))
        desk.redo()
        self.assertEqual(desk.maps(), ("m", "n"))
        desk.undo()
        self.assertEqual(error_of(desk.attempt, lambda it: it.reprice("m", "r", 3))[:2], (Broken, ("within", "m", "a", "a", ROW)))
        self.assertEqual(desk.map_of_name("m").text, ONE)
        # It raised, so what was undone can still be done again.
        desk.redo()
        self.assertEqual(desk.maps(), ("m", "n"))
        self.assertEqual(desk.attempt(lambda it: 7), 7)
        desk.undo()
        self.assertEqual(desk.maps(), ("m", "n"))

    def test_errors_of_all_kinds(self):
        """[96] Whatever is raised, the desk is as it was, and the error goes on."""
        desk = Desk()
        desk.put("m", ONE)
        desk.put("n", TWO)
        desk.undo()
        for kind in (Stop, KeyError, ValueError, ZeroDivisionError, KeyboardInterrupt, SystemExit, GeneratorExit, RecursionError):
            def action(it):
                it.drop("m")
                it.keep(("calm", "zz"))
                raise kind("x")

            for call in (desk.attempt, desk.tried, lambda do: desk.attempt(lambda it: it.tried(do))):
                self.assertRaises(kind, call, action)
                self.assertEqual((desk.maps(), desk.promises(), desk.broken()), (("m",), (), ()))
            with self.assertRaises(kind):
                with desk as it:
                    action(it)
            self.assertEqual((desk.maps(), desk.promises()), (("m",), ()))
        desk.redo()
        self.assertEqual(desk.maps(), ("m", "n"))

    def test_trials(self):
        """[96] [97] Trials leave nothing, also within attempts and within one another."""
        desk = Desk()
        with desk as it:
            self.assertIs(it, desk)
            it.put("m", ONE)
            it.keep(("calm", "m"))
            self.assertEqual(len(it.broken()), 1)
            with it as more:
                more.reprice("m", "r", 9)
                self.assertEqual(more.attempt(lambda again: again.map_of_name("m").roads[0].price), 9)
                self.assertEqual(error_of(more.attempt, lambda again: again.close("m", "z")), (NoRoad, "z"))
                more.undo()
                self.assertEqual(more.map_of_name("m").roads[0].price, 9)
                more.undo()
                self.assertEqual(more.map_of_name("m").roads[0].price, 2)
                self.assertEqual(error_of(more.undo), (NothingToUndo,))
            it.undo()
            self.assertEqual((it.promises(), it.broken()), ((), ()))
            it.redo()
            self.assertEqual(it.promises(), (("calm", "m"),))
        self.assertEqual((desk.maps(), desk.promises()), ((), ()))
        self.assertEqual(error_of(desk.undo), (NothingToUndo,))
        self.assertEqual(error_of(desk.redo), (NothingToRedo,))
        self.assertEqual(desk.tried(lambda it: (it.put("m", ONE), it.maps())), (None, ("m",)))
        self.assertEqual(desk.maps(), ())


class PromiseTest(unittest.TestCase):
    def test_kinds(self):
        """[93] Promises of all kinds that hold, that do not, and that miss a map, a spot, a parent or a table."""
        desk = Desk()
        desk.put("m", EAST)
        desk.branch("m", "n")
        desk.put("k", ONE)
        for promise, holds, place in (
                (("within", "m", "a", "a", ROW), True, None), (("within", "z", "a", "a", ROW), False, None),
                (("within", "m", "z", "a", ROW), False, None), (("within", "m", "a", "m", ROW), False, None),
                (("within", "m", "a", "a", Sheet((0, 1), 9)), False, ("a", 0, 1)),
                (("table", "k", LINE), True, None), (("table", "k", "goal b"), False, None), (("table", "z", ""), False, None),
                (("table", "m", ""), True, None), (("calm", "m"), True, None), (("calm", "z"), False, None),
                (("rise", "m", 0), False, None), (("rise", "z", 0), False, None), (("rise", "n", 0), True, None)):
            self.assertEqual(desk.looked_at(promise), (holds, place), promise)
        holds, place = desk.looked_at(("calm", "k"))
        self.assertEqual((holds, gone(Map(ONE), (place[0], 1, 1), place[1])[0]), (False, (place[0], 1, 1)))
        desk.reprice("n", "r", 3)
        self.assertIs(desk.looked_at(("rise", "n", 10 ** 60))[0], False)
        desk.lay("n", "road s a a 2 0 4")
        self.assertEqual([desk.looked_at(("rise", "n", most))[0] for most in (0, 1)], [False, True])
        desk.remake("n", "spot b")
        self.assertEqual(desk.looked_at(("rise", "n", 5)), (False, None))
        far = ("within", "m", "a", "a", Sheet((10 ** 60, 0), 2 * 10 ** 60, ((3, 0),), (6,)))
        self.assertEqual(desk.looked_at(far), (True, None))

    def test_order(self):
        """[94] The first promise that does not hold, in the order in which they were kept."""
        desk = Desk()
        desk.put("m", EAST)
        first, second = ("within", "m", "a", "a", ROW), ("within", "m", "a", "a", Sheet((0, 0), 0, ((1, 0),), (3,)))
        desk.keep(second)
        desk.keep(first)
        desk.keep(second)
        self.assertEqual(desk.promises(), (second, first))
        self.assertEqual(error_of(desk.reprice, "m", "r", 9)[:2], (Broken, second))
        self.assertEqual(error_of(desk.reprice, "m", "r", 3)[:2], (Broken, first))
        self.assertEqual(error_of(desk.keep, ("calm", "zz")), (Broken, ("calm", "zz"), None))
        self.assertEqual(desk.promises(), (second, first))
        desk.release(first)
        desk.reprice("m", "r", 3)
        # To go back looks at nothing, but only states come back that were looked at.
        desk.undo()
        desk.undo()
        self.assertEqual((desk.promises(), desk.map_of_name("m").text), ((second, first), EAST))

    def test_looks_raise(self):
        """[94] What a look raises is raised by the call, which leaves the desk as it was."""
        desk = Desk()
        desk.put("w", WIDE)
        desk.branch("w", "m")
        for promise in (("within", "w", "s0", "s1", ROW), ("table", "w", ""), ("rise", "m", 0)):
            self.assertEqual(error_of(desk.keep, promise), (TooMany, "spots", 13, 12))
            self.assertEqual(error_of(desk.looked_at, promise), (TooMany, "spots", 13, 12))
            self.assertEqual(error_of(desk.attempt, lambda it: it.keep(promise)), (TooMany, "spots", 13, 12))
            with desk as it:
                it.keep(promise)
                self.assertEqual(error_of(it.broken), (TooMany, "spots", 13, 12))
            self.assertEqual((desk.promises(), desk.broken()), ((), ()))
        # Nothing is made where a spot is missing, or the text is none; rings need no atlas.
        self.assertEqual(desk.looked_at(("within", "w", "s0", "z", ROW)), (False, None))
        self.assertEqual(desk.looked_at(("table", "w", "goal z")), (False, None))
        self.assertEqual(desk.looked_at(("rise", "w", 0)), (False, None))
        desk.keep(("calm", "w"))
        desk.remake("m", ONE)
        self.assertEqual(desk.looked_at(("rise", "m", 0)), (False, None))

    def test_names(self):
        """[97] Drops and renames in parents and promises; of promises that become equal the first one stays."""
        desk = Desk()
        for new, text in (("a", EAST), ("b", EAST)):
            desk.put(new, text)
        desk.branch("a", "c")
        desk.branch("c", "d")
        desk.branch("c", "e")
        with desk as it:
            for promise in (("calm", "x"), ("calm", "a"), ("rise", "c", 1), ("calm", "b"), ("rise", "x", 1)):
                it.keep(promise)
            it.rename("a", "x")
            self.assertEqual((it.maps(), it.parent("c")), (("x", "b", "c", "d", "e"), "x"))
            self.assertEqual(it.promises(), (("calm", "x"), ("rise", "c", 1), ("calm", "b"), ("rise", "x", 1)))
            it.rename("c", "a")
            self.assertEqual((it.children("a"), it.ancestors("e")), (("d", "e"), ("e", "a", "x")))
        desk.drop("c")
        self.assertEqual((desk.children("a"), desk.parent("d"), desk.ancestors("e")), (("d", "e"), "a", ("e", "a")))
        desk.drop("a")
        self.assertEqual((desk.maps(), desk.parent("d"), desk.parent("e")), (("b", "d", "e"), None, None))

    def test_errors(self):
        """[97] [98] NoMap ahead of all others, BadName ahead of TakenName, then the errors of the maps."""
        desk = Desk()
        self.assertEqual((desk.maps(), desk.promises(), desk.broken()), ((), (), ()))
        desk.put("m", ONE)
        for name in NO_NAMES + ("z",):
            for call in (desk.drop, desk.map_of_name, desk.parent, desk.ancestors, desk.children,
                         lambda value: desk.branch(value, None), lambda value: desk.remake(value, "x"),
                         lambda value: desk.close(value, None), lambda value: desk.lay(value, "x"),
                         lambda value: desk.reprice(value, None, None), lambda value: desk.rename(value, None)):
                self.assertEqual(error_of(call, name)[0], NoMap)
        for new in NO_NAMES:
            for call in (lambda value: desk.put(value, "x"), lambda value: desk.branch("m", value),
                         lambda value: desk.rename("m", value)):
                self.assertEqual(error_of(call, new)[0], BadName)
        for call in (lambda value: desk.put(value, "x"), lambda value: desk.branch("m", value),
                     lambda value: desk.rename("m", value)):
            self.assertEqual(error_of(call, "m"), (TakenName, "m"))
        self.assertEqual(error_of(desk.put, "n", "spot A"), (BadText, 1, 6))
        self.assertEqual(error_of(desk.remake, "m", "spot A"), (BadText, 1, 6))
        self.assertEqual(error_of(desk.close, "m", ["r"]), (NoRoad, ["r"]))
        self.assertEqual(error_of(desk.lay, "m", "road r"), (BadText, 1, 7))
        self.assertEqual(error_of(desk.reprice, "m", "z", 0), (NoRoad, "z"))
        self.assertEqual(error_of(desk.reprice, "m", "r", 0), (BadNumber, "price", 0))
        self.assertEqual(error_of(desk.undo), None)
        self.assertEqual(desk.maps(), ())

    def test_no_promises(self):
        """[97] [98] Values that are no promises; promises that are not kept."""
        desk = Desk()
        desk.put("m", EAST)
        for value in NO_PROMISES:
            for call in (desk.keep, desk.release, desk.looked_at):
                self.assertEqual(error_of(call, value)[0], BadPromise)
        for promise in PROMISES:
            self.assertEqual(error_of(desk.release, promise), (NotKept, promise))
        desk.keep(("within", "m", "a", "a", ROW))
        desk.release(("within", "m", "a", "a", Sheet((0, 0), 0, ((1, 0),), (2,))))
        self.assertEqual(desk.promises(), ())


if __name__ == "__main__":
    unittest.main()
