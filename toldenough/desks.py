"""A desk: examples under names, deeds on them that can be undone, and points whose states are watched."""

from toldenough.checks import check_lies, check_point
from toldenough.deeds import after, is_deed
from toldenough.errors import BadDeed, BadName, NoDeed, NotWatched, Watched
from toldenough.fitting import settled
from toldenough.forms import is_row, is_word
from toldenough.samples import Sample


class Desk:
    """Examples of which so many may be wrong, and points that are watched."""

    def __init__(self, kind, *, lies=0):
        check_lies(lies)
        self.kind = kind
        self.lies = lies
        # A trial keeps these three and gives them back, so they are tuples, which are never changed themselves.
        self._rows = ()
        self._past = ()
        self._ahead = ()
        self._points = {}

    def names(self):
        """Return the list of the names of the examples, in the order in which they stand."""
        return [row[0] for row in self._rows]

    def sample(self):
        """Return the sample of the examples, in the order in which they stand."""
        return self._sample_of(self._rows)

    def put(self, name, point, label):
        """Put an example at the end; return the news."""
        return self._done(("put", name, point, label))

    def drop(self, name):
        """Take the example with this name away; return the news."""
        return self._done(("drop", name))

    def allow(self, lies):
        """Change the number of lies; return the news."""
        return self._done(("allow", lies))

    def watch(self, name, point):
        """Watch a point under this name."""
        if not is_word(name):
            raise BadName(name)
        if name in self._points:
            raise Watched(name)
        check_point(self.kind, point)
        self._points[name] = tuple(point)

    def unwatch(self, name):
        """Watch the point under this name no more."""
        self._check_watched(name)
        del self._points[name]

    def state(self, name):
        """Return what is settled at the point that is watched under this name."""
        self._check_watched(name)
        return settled(self.kind, self.sample(), self._points[name], lies=self.lies)

    def states(self):
        """Return the dict from the names of all watched points, ascending, to their states."""
        return self._states_in(self._rows, self.lies)

    def undo(self):
        """Take the last deed back; return the news."""
        if len(self._past) == 0:
            raise NoDeed()
        state = self._past[-1]
        self._ahead = (*self._ahead, (self._rows, self.lies))
        self._past = self._past[:-1]
        return self._moved(state)

    def again(self):
        """Do the last deed again that was taken back; return the news."""
        if len(self._ahead) == 0:
            raise NoDeed()
        state = self._ahead[-1]
        self._past = (*self._past, (self._rows, self.lies))
        self._ahead = self._ahead[:-1]
        return self._moved(state)

    def would(self, deeds):
        """Return the news that there would be behind all these deeds."""
        if not is_row(deeds):
            raise BadDeed(0)
        for index, thing in enumerate(deeds):
            if not is_deed(thing):
                raise BadDeed(index)
        state = (self._rows, self.lies)
        for deed in deeds:
            state = after(self.kind, state, deed)
        rows, lies = state
        return _news(self.states(), self._states_in(rows, lies))

    def trial(self, work):
        """Return what the work returns for this desk, and give the desk the examples and deeds of before."""
        rows, lies, past, ahead = self._rows, self.lies, self._past, self._ahead
        try:
            return work(self)
        finally:
            self._rows, self.lies, self._past, self._ahead = rows, lies, past, ahead

    def _done(self, deed):
        """Do the deed, and return the news."""
        state = (self._rows, self.lies)
        following = after(self.kind, state, deed)
        self._past = (*self._past, state)
        self._ahead = ()
        return self._moved(following)

    def _moved(self, state):
        """Take over the state, and return the news."""
        before = self.states()
        self._rows, self.lies = state
        return _news(before, self.states())

    def _states_in(self, rows, lies):
        """Return the states that the watched points have with these rows and lies."""
        sample = self._sample_of(rows)
        return {name: settled(self.kind, sample, self._points[name], lies=lies) for name in sorted(self._points)}

    def _sample_of(self, rows):
        return Sample(self.kind.places, [(point, label) for _, point, label in rows])

    def _check_watched(self, name):
        # The form comes first: not every object can be looked up.
        if not is_word(name) or name not in self._points:
            raise NotWatched(name)

    def __len__(self):
        return len(self._rows)

    def __contains__(self, name):
        return name in [row[0] for row in self._rows]


def _news(before, now):
    """Return the ascending list of the names whose states have changed, with those of now."""
    return [(name, word) for name, word in now.items() if word != before[name]]
