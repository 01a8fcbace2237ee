"""Desks: maps with descent, edits that can be taken back, and promises for all places."""

from alljourneys.building import repriced, with_road, without
from alljourneys.checks import is_name
from alljourneys.errors import BadName, Broken, NoMap, NotKept, NothingToRedo, NothingToUndo, TakenName
from alljourneys.maps import Map
from alljourneys.promises import Watch, require_promise


class State:
    """All that a desk has at a time: rows are tuples of a name, a map and the name of its parent or None."""

    def __init__(self, rows, promises):
        self.rows = rows
        self.kept = promises

    def land_of(self, name):
        """The map of a name; None if there is none."""
        for row in self.rows:
            if row[0] == name:
                return row[1]
        return None

    def parent_of(self, name):
        """The name of the parent of the map of a name; None if there is none."""
        for row in self.rows:
            if row[0] == name:
                return row[2]
        return None


class Frame:
    """How a desk was ahead of an attempt or a trial, and the frame of the one around it."""

    def __init__(self, now, past, future, around):
        self.now = now
        self.past = past
        self.future = future
        self.around = around


class Desk:
    """Maps by names; each state is kept whole, so that to go back is to take an earlier one."""

    def __init__(self):
        self._now = State((), ())
        self._past = ()
        self._future = ()
        self._frame = None
        self._watch = Watch()

    def _require_map(self, name):
        """The map of this name; NoMap for any other value."""
        land = self._now.land_of(name) if isinstance(name, str) else None
        if land is None:
            raise NoMap(name)
        return land

    def _require_new(self, new):
        """Raise BadName or TakenName unless a map can have this name."""
        if not is_name(new):
            raise BadName(new)
        if self._now.land_of(new) is not None:
            raise TakenName(new)

    def _look_at(self, state, promise):
        """A tuple of whether a promise holds in a state, and a witness."""
        parent = state.parent_of(promise[1])
        return self._watch.look(promise, state.land_of(promise[1]), None if parent is None else state.land_of(parent))

    def _require_kept(self, state):
        """Raise Broken for the first promise that does not hold in a state."""
        for promise in state.kept:
            holds, place = self._look_at(state, promise)
            if not holds:
                raise Broken(promise, place)

    def _edit(self, rows, kept):
        """Take what is told for the state behind an edit."""
        state = State(tuple(rows), tuple(kept))
        if self._frame is None:
            self._require_kept(state)
        self._past = (*self._past, self._now)
        self._future = ()
        self._now = state

    def _replace(self, name, land):
        """Let the map of a name be another one."""
        self._edit([(row[0], land, row[2]) if row[0] == name else row for row in self._now.rows], self._now.kept)

    def put(self, new, text):
        """Add a map without a parent."""
        self._require_new(new)
        self._edit([*self._now.rows, (new, Map(text), None)], self._now.kept)

    def branch(self, name, new):
        """Add a map that is equal to one that is there, which is its parent."""
        land = self._require_map(name)
        self._require_new(new)
        self._edit([*self._now.rows, (new, land, name)], self._now.kept)

    def remake(self, name, text):
        """Let a map be that of a text."""
        self._require_map(name)
        self._replace(name, Map(text))

    def close(self, name, road):
        """Take a road from a map."""
        self._replace(name, without(self._require_map(name), [road]))

    def lay(self, name, line):
        """Add a road to a map."""
        self._replace(name, with_road(self._require_map(name), line))

    def reprice(self, name, road, price):
        """Give a road of a map another price."""
        self._replace(name, repriced(self._require_map(name), road, price))

    def drop(self, name):
        """Take a map away; its parent becomes that of its children."""
        self._require_map(name)
        parent = self._now.parent_of(name)
        rows = [(row[0], row[1], parent if row[2] == name else row[2]) for row in self._now.rows if row[0] != name]
        self._edit(rows, self._now.kept)

    def rename(self, name, new):
        """Give a map another name, by which parents and promises call it, too."""
        self._require_map(name)
        self._require_new(new)
        rows = []
        for own, land, parent in self._now.rows:
            rows.append((new if own == name else own, land, new if parent == name else parent))
        kept = []
        for promise in self._now.kept:
            renamed = (promise[0], new, *promise[2:]) if promise[1] == name else promise
            if renamed not in kept:
                kept.append(renamed)
        self._edit(rows, kept)

    def keep(self, promise):
        """Keep a promise from now on."""
        require_promise(promise)
        kept = self._now.kept
        self._edit(self._now.rows, kept if promise in kept else [*kept, promise])

    def release(self, promise):
        """Keep a promise no more."""
        require_promise(promise)
        if promise not in self._now.kept:
            raise NotKept(promise)
        self._edit(self._now.rows, [other for other in self._now.kept if other != promise])

    def undo(self):
        """Go back to the state ahead of the last edit."""
        if not self._past:
            raise NothingToUndo()
        self._future = (*self._future, self._now)
        self._now = self._past[-1]
        self._past = self._past[:-1]

    def redo(self):
        """Do again what was taken back last."""
        if not self._future:
            raise NothingToRedo()
        self._past = (*self._past, self._now)
        self._now = self._future[-1]
        self._future = self._future[:-1]

    def _open(self):
        """Begin an attempt or a trial: its Frame, with what is to be gone back to."""
        frame = Frame(self._now, self._past, self._future, self._frame)
        self._past = ()
        self._future = ()
        self._frame = frame
        return frame

    def attempt(self, action):
        """Call a function with the desk; all that it does is one edit, or nothing if an error is raised."""
        frame = self._open()
        done = None
        try:
            result = action(self)
            if frame.around is None:
                self._require_kept(self._now)
            done = True
        finally:
            if done is None:
                self._now = frame.now
                self._past = frame.past
                self._future = frame.future
                self._frame = frame.around
        self._past = (*frame.past, frame.now)
        self._future = ()
        self._frame = frame.around
        return result

    def tried(self, action):
        """Call a function with the desk; nothing that it does is left."""
        frame = self._open()
        try:
            return action(self)
        finally:
            self._now = frame.now
            self._past = frame.past
            self._future = frame.future
            self._frame = frame.around

    def __enter__(self):
        self._open()
        return self

    def __exit__(self, kind, value, trace):
        frame = self._frame
        self._now = frame.now
        self._past = frame.past
        self._future = frame.future
        self._frame = frame.around

    def maps(self):
        """The tuple of the names of the maps, in order."""
        return tuple([row[0] for row in self._now.rows])

    def map_of_name(self, name):
        """The Map of a name."""
        return self._require_map(name)

    def parent(self, name):
        """The name of the parent of a map; None if it has none."""
        self._require_map(name)
        return self._now.parent_of(name)

    def ancestors(self, name):
        """The tuple of the name of a map, of its parent, of the parent of that, and so on."""
        self._require_map(name)
        names = []
        while name is not None:
            names.append(name)
            name = self._now.parent_of(name)
        return tuple(names)

    def children(self, name):
        """The tuple of the names of the maps whose parent a map is, in order."""
        self._require_map(name)
        return tuple([row[0] for row in self._now.rows if row[2] == name])

    def promises(self):
        """The tuple of the promises that are kept, in order."""
        return self._now.kept

    def looked_at(self, promise):
        """A tuple of whether a promise would hold now, and of its witness or None."""
        require_promise(promise)
        return self._look_at(self._now, promise)

    def broken(self):
        """The tuple of the tuples (promise, witness) of kept promises that do not hold now."""
        if self._frame is None:
            return ()
        looks = [(promise, self._look_at(self._now, promise)) for promise in self._now.kept]
        return tuple([(promise, place) for promise, (holds, place) in looks if not holds])
