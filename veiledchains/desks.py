"""Desks: a chain, and a view that is being seen sign by sign."""

from veiledchains.along import told_ahead
from veiledchains.best import best_course, ranked
from veiledchains.bounds import MAX_EDITS, MAX_ROW
from veiledchains.chains import chain_error
from veiledchains.courses import chance
from veiledchains.errors import BadChain, BadLog, ChainError, NothingToUndo, TooMany, Unfit
from veiledchains.evened import evened
from veiledchains.heaps import heap_error
from veiledchains.learning import learned_in_figures
from veiledchains.parts import last_parts, shared
from veiledchains.views import view_error


class Desk:
    """A chain and a view, and the edits that made them."""

    def __init__(self, chain):
        _check_chain(chain)
        # A page for each edit that stands: the edit, and the chain and the view behind it. The first one has no edit.
        self._pages = ((None, chain, ""),)

    @property
    def chain(self):
        """The chain as it stands."""
        return self._pages[-1][1]

    @property
    def view(self):
        """The view that was seen until now."""
        return self._pages[-1][2]

    @property
    def log(self):
        """The edits that stand, in order."""
        return tuple([page[0] for page in self._pages[1:]])

    @property
    def version(self):
        """How many edits stand."""
        return len(self._pages) - 1

    def __eq__(self, other):
        return isinstance(other, Desk) and self.chain == other.chain and self.view == other.view

    def copy(self):
        """Another desk with the same chain, view and edits."""
        desk = Desk(self.chain)
        desk._pages = self._pages
        return desk

    def put(self, view):
        """Puts view behind the view."""
        if view_error(self.chain, view) is not None or view == "":
            raise Unfit()
        if len(self.view + view) > MAX_ROW:
            raise TooMany(MAX_ROW)
        return self._edit(("put", view), self.chain, self.view + view)

    def take(self, chain):
        """Puts chain in the place of the chain."""
        _check_chain(chain)
        if view_error(chain, self.view) is not None:
            raise Unfit()
        return self._edit(("take", chain), chain, self.view)

    def learn(self, heap):
        """Puts what is learnt from heap in the place of the chain."""
        if heap_error(self.chain, heap) is not None:
            raise Unfit()
        return self._edit(("learn", heap), learned_in_figures(self.chain, heap), self.view)

    def forget(self):
        """Begins with the empty view again."""
        return self._edit(("forget",), self.chain, "")

    def _edit(self, edit, chain, view):
        """Turns to a page with this chain and this view, and tells the version."""
        if self.version >= MAX_EDITS:
            raise TooMany(MAX_EDITS)
        self._pages = self._pages + ((edit, chain, view),)
        return self.version

    def undo(self):
        """Takes back the last edit that stands."""
        if self.version == 0:
            raise NothingToUndo()
        self._pages = self._pages[:-1]
        return self.version

    def chance(self):
        """The chance of the view."""
        return chance(self.chain, self.view)

    def states(self):
        """The shares of the states at the last place of the view, given it."""
        parts = last_parts(evened(self.chain), self.view)
        return shared([parts], [sum(parts)])[0]

    def coming(self):
        """For each sign the share by which it comes next."""
        return tuple([told_ahead(self.chain, self.view, sign) for sign in self.chain[0]])

    def best(self):
        """The best course and its chance."""
        return best_course(self.chain, self.view)

    def ranked(self, number):
        """The possible course with this number in order, and its chance."""
        return ranked(self.chain, self.view, number)


def _check_chain(value):
    error = chain_error(value)
    if error is not None:
        raise BadChain(error)


def desk_behind(chain, log):
    """The desk on chain with the edits of log done."""
    desk = Desk(chain)
    if not isinstance(log, tuple):
        raise BadLog(-1)
    for place, edit in enumerate(log):
        if not _is_edit(edit):
            raise BadLog(place)
        try:
            _do(desk, edit)
        except ChainError:
            raise BadLog(place) from None
    return desk


def _is_edit(value):
    if not isinstance(value, tuple):
        return False
    return value == ("forget",) or (len(value) == 2 and value[0] in ("put", "take", "learn"))


def _do(desk, edit):
    word = edit[0]
    if word == "put":
        desk.put(edit[1])
    elif word == "take":
        desk.take(edit[1])
    elif word == "learn":
        desk.learn(edit[1])
    else:
        desk.forget()
