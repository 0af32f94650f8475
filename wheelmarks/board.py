"""A Board: a MILL, and choices of further SAYINGS that hold or do not, with deeds that can be undone."""

from wheelmarks.covers import is_covered, is_more, uncovered
from wheelmarks.errors import NothingDone, NoWord, Twice, Unfit
from wheelmarks.mills import with_saying, without_saying
from wheelmarks.rings import can_be_kept
from wheelmarks.values import is_name, need_end, saying_names, tupled


class Board:
    """A MILL and choices, by their NAMES."""

    def __init__(self, mill):
        self.mill = tupled(mill)
        self.names = ()
        # A deed puts another dict here, so what is kept to be undone stays as it is.
        self._choices = {}
        self._past = []

    def __len__(self):
        return len(self.names)

    def __contains__(self, name):
        return isinstance(name, str) and name in self.names

    def __getitem__(self, name):
        if name not in self.names:
            raise NoWord(name)
        return self._choices[name]

    def __iter__(self):
        raise TypeError("a Board is not gone through")

    def __eq__(self, other):
        return isinstance(other, Board) and self.mill == other.mill and self._choices == other._choices

    def _become(self, mill, choices):
        self.mill = mill
        self.names = tuple(sorted(list(choices)))
        self._choices = choices

    def _do(self, mill, choices):
        self._past.append((self.mill, self._choices))
        self._become(mill, choices)

    def put(self, name, more):
        """Makes this the choice of this NAME."""
        choice = tupled(more)
        if not is_name(name) or not is_more(self.mill, choice):
            raise Unfit()
        choices = {known: told for known, told in self._choices.items()}
        choices[name] = choice
        self._do(self.mill, choices)

    def drop(self, name):
        """Takes the choice of this NAME away."""
        if name not in self.names:
            raise NoWord(name)
        self._do(self.mill, {known: told for known, told in self._choices.items() if known != name})

    def _said(self, saying):
        """The MILL with this SAYING, too."""
        name, one, other, _, _ = saying
        need_end(self.mill, one)
        need_end(self.mill, other)
        for more in self._choices.values():
            if name in [further[0] for further in more]:
                raise Twice(name)
        return with_saying(self.mill, saying)

    def say(self, saying):
        """Makes this SAYING one of the MILL."""
        self._do(self._said(saying), self._choices)

    def unsay(self, name):
        """Takes this SAYING from the MILL."""
        self._do(without_saying(self.mill, name), self._choices)

    def undo(self):
        """Undoes the last deed that is not undone."""
        if len(self._past) == 0:
            raise NothingDone()
        mill, choices = self._past.pop()
        self._become(mill, choices)

    def twin(self):
        """An equal Board of its own, without deeds to undo."""
        board = Board(self.mill)
        board._become(self.mill, {name: more for name, more in self._choices.items()})
        return board

    def can_be_set(self):
        """Whether the MILL has a SETTING."""
        return can_be_kept(self.mill)

    def holds(self, name):
        """Whether each SETTING keeps at least one SAYING of this choice."""
        return is_covered(self.mill, self[name])

    def _holding_in(self, mill):
        """The set of the choices that hold in this MILL."""
        return tuple([name for name in self.names if is_covered(mill, self._choices[name])])

    def holding(self):
        """The set of the choices that hold."""
        return self._holding_in(self.mill)

    def paper(self, name):
        """A SETTING that keeps no SAYING of this choice, None if it holds."""
        return uncovered(self.mill, self[name])

    def newly(self, saying):
        """The set of the choices that do not hold, and do with this SAYING."""
        own = self._said(saying)
        known = self.holding()
        return tuple([name for name in self._holding_in(own) if name not in known])

    def hangs_on(self, name):
        """The set of the SAYINGS without each of which, that one alone, this choice, which holds, does not."""
        more = self[name]
        if not is_covered(self.mill, more):
            return ()
        told = saying_names(self.mill)
        return tuple([gone for gone in told if not is_covered(without_saying(self.mill, gone), more)])
