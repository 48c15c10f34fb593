"""Histories: the states of a project, which are led back, written, taken back and merged."""

from sourceback.chronicles import project_lines, read_chronicle, step_line
from sourceback.costs import all_costs
from sourceback.edits import outputs_of
from sourceback.errors import BackError, BadText, NoHistory, NoMark, NoState, NothingToRedo, NothingToUndo
from sourceback.errors import NotMergeable, Unrelated
from sourceback.files import is_name
from sourceback.joining import joined_edit
from sourceback.kept import Kept
from sourceback.leading import led_back
from sourceback.shapes import is_count
from sourceback.values import labelled


class Moment:
    """All that changes in a history: how its states came, the kept values of each, the present one, the marks.

    A moment itself does not change, nor do its lists.
    """

    def __init__(self, steps, keeps, at, marked):
        self.steps = steps
        self.keeps = keeps
        self.at = at
        self.marked = marked

    def as_tuple(self):
        """What makes two histories with one beginning equal."""
        return (self.steps, self.at, self.marked)


class Saved:
    """A moment to come back to, and the one that was saved ahead of it."""

    def __init__(self, moment, outer):
        self.moment = moment
        self.outer = outer


class Trial:
    """A block at the end of which a history is as it was at the beginning."""

    def __init__(self, history):
        self.history = history
        self.saved = None

    def __enter__(self):
        self.saved = Saved(self.history._now, self.saved)
        return self.history

    def __exit__(self, *told):
        history = self.history
        history._now = self.saved.moment
        self.saved = self.saved.outer


class History:
    """The states of a project, one of which is the present one."""

    def __init__(self, project):
        self._ground = (project.files, numbers_of(project))
        self._now = Moment([None], [Kept(project)], 0, {})

    @property
    def project(self):
        """The project of the present state."""
        return self.kept.project

    @property
    def kept(self):
        """The kept values of the present state."""
        return self._now.keeps[self._now.at]

    @property
    def place(self):
        """The number of the present state."""
        return self._now.at

    @property
    def marks(self):
        """The marks with the numbers of their states, ascending."""
        return tuple(sorted([(name, number) for name, number in self._now.marked.items()]))

    def __len__(self):
        return len(self._now.keeps)

    def __getitem__(self, at):
        if not is_count(at) or at >= len(self._now.steps):
            raise NoState(at)
        return self._now.steps[at]

    def __iter__(self):
        raise TypeError("a history is not iterated over: take its states")

    def __eq__(self, other):
        if not isinstance(other, History) or self._ground != other._ground:
            return False
        return self._now.as_tuple() == other._now.as_tuple()

    def states(self):
        """Go through the projects of all states."""
        for kept in self._now.keeps:
            yield kept.project

    def lead(self, edit, *, locked=(), **costs):
        """Lead an edit back from the present state."""
        led = led_back(self.project, edit, locked, all_costs(**costs))
        if led.plan != ():
            self._add(("lead", edit, led.plan), self.kept.changed(led.plan))
        return led

    def write(self, name, text):
        """Give a file another text, or take it away."""
        kept = self.kept.rewritten(name, text)
        if kept.project != self.project:
            self._add(("write", name, text), kept)

    def _add(self, step, kept):
        """Add a state behind the present one, in the place of those that were taken back."""
        now = self._now
        count = now.at + 1
        marked = {name: number for name, number in now.marked.items() if number < count}
        self._now = Moment(now.steps[:count] + [step], now.keeps[:count] + [kept], count, marked)

    def _move(self, at):
        """Let another state be the present one."""
        self._now = Moment(self._now.steps, self._now.keeps, at, self._now.marked)

    def undo(self):
        """Go one state back."""
        if self.place == 0:
            raise NothingToUndo()
        self._move(self.place - 1)

    def redo(self):
        """Go one state on."""
        if self.place == len(self._now.keeps) - 1:
            raise NothingToRedo()
        self._move(self.place + 1)

    def mark(self, name):
        """Mark the present state, and no other one any more."""
        if not is_name(name):
            raise NoMark(name)
        now = self._now
        self._now = Moment(now.steps, now.keeps, now.at, {**now.marked, name: now.at})

    def go(self, name):
        """Go to the state with a mark."""
        if not isinstance(name, str) or name not in self._now.marked:
            raise NoMark(name)
        self._move(self._now.marked[name])

    def merge(self, other, *, locked=(), **costs):
        """Lead back what another history changed since the last state that both have in common."""
        if not isinstance(other, History):
            raise NoHistory(other)
        if self._ground != other._ground:
            raise Unrelated()
        common = self._common(other)
        for history in (self, other):
            written = [at for at in range(common + 1, history.place + 1) if history[at][0] == "write"]
            if written:
                raise NotMergeable(written[0])
        edit = joined_edit(self._since(common), other._since(common))
        led = led_back(self.project, edit, locked, all_costs(**costs))
        if led.plan == ():
            return None
        self._add(("merge", edit, led.plan), self.kept.changed(led.plan))
        return led

    def _common(self, other):
        """The number of the last state up to the present ones to which equal steps lead."""
        at = 0
        while at < min(self.place, other.place) and self[at + 1] == other[at + 1]:
            at += 1
        return at

    def _since(self, at):
        """The projects from a state to the present one, and the edits between them."""
        end = self.place + 1
        projects = [kept.project for kept in self._now.keeps[at:end]]
        return projects, [step[1] for step in self._now.steps[at + 1:end]]

    def trial(self):
        """A block at the end of which the history is as it was."""
        return Trial(self)

    def tried(self, look):
        """What a function returns for the history within a trial."""
        with self.trial() as history:
            return look(history)

    def text(self):
        """The history as a text."""
        lines = project_lines(self._now.keeps[0].project) + [step_line(step) for step in self._now.steps[1:]]
        lines += [f"mark {name} {number}" for name, number in self.marks]
        return "\n".join(lines + [f"at {self.place}"])

    @classmethod
    def read(cls, text):
        """The history that any value is the text of."""
        if not isinstance(text, str):
            raise BadText(text)
        try:
            told = read_chronicle(text)
            history = cls(told.start)
            for step in told.steps:
                history._repeat(step)
        except BackError:
            raise BadText(text) from None
        count = len(history._now.steps)
        if count != len(told.steps) + 1 or told.at >= count or any([at >= count for at in told.marked.values()]):
            raise BadText(text)
        history._now = Moment(history._now.steps, history._now.keeps, told.at, told.marked)
        # Lines that are not where they must be, or that no history needs, are not there when it is told anew.
        if history.text() != text:
            raise BadText(text)
        return history

    def _repeat(self, step):
        """Add a state as it came once, if it adds one that fulfils the wish of its edit."""
        if step[0] == "write":
            self.write(step[1], step[2])
            return
        outputs = outputs_of(self.project, step[1])
        kept = self.kept.changed(step[2])
        files = kept.project.documents
        if step[2] != () and all([labelled(kept.project, file) == outputs.record(file) for file in files]):
            self._add(step, kept)


def numbers_of(project):
    """The serials and the next serials of all lists of a project."""
    keys = project.lists()
    return [(file, name, project.serials(file, name), project.next_serial(file, name)) for file, name in keys]
