"""A board and a desk told anew from the document's words, by hand, without the package's Board."""

from tests.outside import done, made


class Refused(Exception):

    def __init__(self, raised, name):
        super().__init__(raised, name)
        self.raised, self.name = raised, name


class HandBoard:
    """A board of texts: views and the ends of frames are texts of rules; within tells whether one is within another."""

    def __init__(self, within, row=()):
        self.within, self.row, self.limit, self.views, self.frames = within, tuple(row), None, {}, {}
        self.earlier = []

    def state(self):
        return self.row, self.limit, dict(self.views), dict(self.frames)

    def take(self, state):
        self.row, self.limit, self.views, self.frames = state[0], state[1], dict(state[2]), dict(state[3])

    def cut_row(self):
        if self.limit is not None:
            self.row = self.row[:self.limit]

    def view(self, name):
        if name not in self.views:
            raise Refused("NoView", name)
        return self.views[name]

    def put(self, name, text):
        low, high = self.frames.get(name, (None, None))
        if low is not None and not self.within(low, text) or high is not None and not self.within(text, high):
            raise Refused("Outside", name)
        self.views[name] = text

    def one(self, kind, *values):
        """Does one deed, told by its kind and texts; may stop halfway."""
        name = values[0] if values else None
        if kind in ("use", "forget"):
            if kind == "forget" and name not in self.row:
                raise Refused("NoName", name)
            self.row = done(f"{'touch' if kind == 'use' else 'forget'} {name}", self.row)
        elif kind == "do":
            self.row = made(values[0], self.row)
        elif kind == "cut":
            self.limit = values[0]
        elif kind == "set":
            self.put(name, values[1])
        elif kind == "leave":
            self.view(name)
            self.views.pop(name)
            self.frames.pop(name, None)
        elif kind == "step":
            text = self.view(name)
            self.put(name, values[1] if text == "-" else f"{text}; {values[1]}")
        elif kind == "frame":
            text = self.view(name)
            kept = self.frames.pop(name, None)
            self.frames[name] = (values[1], values[2])
            try:
                self.put(name, text)
            except Refused:
                self.frames.pop(name)
                if kept is not None:
                    self.frames[name] = kept
                raise
        elif kind == "lift":
            self.view(name)
            if name not in self.frames:
                raise Refused("NoFrame", name)
            self.frames.pop(name)
        self.cut_row()

    def deeds(self, deeds):
        """Does all of them, as one deed, or none; returns None or (number, class, NAME) of the first refused one."""
        before = self.state()
        for number, deed in enumerate(deeds):
            try:
                self.one(*deed)
            except Refused as refused:
                self.take(before)
                return number, refused.raised, refused.name
        self.earlier.append(before)
        return None

    def undo(self):
        if not self.earlier:
            return False
        self.take(self.earlier.pop())
        return True

    def shown(self, name):
        return made(self.views[name], self.row)

    def common(self):
        rows = [self.shown(name) for name in self.views]
        return tuple(sorted(set.intersection(*map(set, rows)))) if rows else ()

    def unseen(self):
        rows = [self.shown(name) for name in self.views]
        return tuple(sorted(set(self.row) - {name for row in rows for name in row}))

    def above(self, name):
        return tuple(sorted(
            other for other in self.views if other != name and self.within(self.views[name], self.views[other])))

    def doubled(self, alike):
        return tuple(sorted(
            name for name in self.views if any(other < name and alike(self.views[other], self.views[name])
                                               for other in self.views)))
