"""Workshops: logs under names, wishes that always hold, and changes that can be taken back."""

from hullrests.checks import check_index, check_log
from hullrests.errors import Broken, InUse, InvalidName, InvalidWish, NothingToUndo, UnknownName
from hullrests.kinds import name_fits
from hullrests.wishes import wish_fits, wish_holds


class Moment:
    """How a workshop was when a block began, and the moment of the block around it, None for the outermost one."""

    def __init__(self, now, past, around):
        self.now = now
        self.past = past
        self.around = around


class Trial:
    """What a `with` statement needs to bring a workshop back to how it was when the block began."""

    def __init__(self, shop):
        self.shop = shop
        self.began = None

    def __enter__(self):
        self.began = Moment(self.shop.now, self.shop.past, self.began)
        return self.shop

    def __exit__(self, kind, value, trace):
        shop = self.shop
        if kind is not None:
            shop.now = self.began.now
            shop.past = self.began.past
        self.began = self.began.around


class Workshop:
    """Keeps logs under names, and wishes that always hold.

    `now` is the pair of its logs, a dict that is never changed, and its wishes; `past` are the pairs before each
    change that can be taken back.
    """

    def __init__(self):
        self.now = ({}, ())
        self.past = ()

    def __len__(self):
        return len(self.past)

    def __bool__(self):
        return True

    def __contains__(self, name):
        return isinstance(name, str) and name in self.now[0]

    @property
    def names(self):
        """The names, ascending."""
        return tuple(sorted(list(self.now[0])))

    @property
    def wishes(self):
        """The wishes, in the order in which they were made."""
        return self.now[1]

    def _change(self, logs, wishes):
        """Makes a change that can be taken back."""
        self.past = self.past + (self.now,)
        self.now = (logs, wishes)

    def put(self, name, log):
        """Puts a log under a name, or another one in its place."""
        if not name_fits(name):
            raise InvalidName(name)
        check_log(log)
        logs, wishes = self.now
        for k, wish in enumerate(wishes):
            if wish[1] == name and not wish_holds(wish, log):
                raise Broken(k)
        self._change({**logs, name: log}, wishes)

    def drop(self, name):
        """Takes a log away that no wish names."""
        logs, wishes = self.now
        if name not in self:
            raise UnknownName(name)
        for k, wish in enumerate(wishes):
            if wish[1] == name:
                raise InUse(k)
        self._change({each: logs[each] for each in logs if each != name}, wishes)

    def wish(self, wish):
        """Makes a wish that holds now."""
        logs, wishes = self.now
        if not wish_fits(wish):
            raise InvalidWish(wish)
        if wish[1] not in self:
            raise UnknownName(wish[1])
        if not wish_holds(wish, logs[wish[1]]):
            raise Broken(len(wishes))
        self._change(logs, wishes + (wish,))

    def lift(self, index):
        """Takes a wish away."""
        logs, wishes = self.now
        check_index(len(wishes), index)
        self._change(logs, wishes[:index] + wishes[index + 1:])

    def named(self, name):
        """The log under a name."""
        if name not in self:
            raise UnknownName(name)
        return self.now[0][name]

    def undo(self):
        """Takes back the last change."""
        if not self.past:
            raise NothingToUndo()
        self.now = self.past[-1]
        self.past = self.past[:-1]

    def trial(self):
        """For a `with` statement: if its block ends with an exception, the workshop is as it was when it began."""
        return Trial(self)

    def tried(self, action):
        """What the action, called with the workshop within such a statement, returns."""
        with self.trial() as shop:
            return action(shop)
