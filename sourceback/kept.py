"""Projects with all their things worked out, kept up to date when the sources change."""

from sourceback.errors import NoThing
from sourceback.plans import made
from sourceback.renewing import Renewing, has_thing_form


class Kept:
    """A project with the values of all its things."""

    def __init__(self, project):
        reading = Renewing(project, None)
        reading.renew()
        self._hold(reading)

    def _hold(self, reading):
        """Keep what was worked out."""
        self._reading = reading
        self._worked = tuple(sorted(reading.fresh))

    @property
    def project(self):
        """The project."""
        return self._reading.stored

    @property
    def worked(self):
        """The things that were worked out, ascending."""
        return self._worked

    def __getitem__(self, at):
        if not has_thing_form(at) or at not in self._reading.worths:
            raise NoThing(at)
        return self._reading.worths[at]

    def __iter__(self):
        raise TypeError("kept values are not iterated over: take the things of the project")

    def __len__(self):
        return len(self._reading.worths)

    def changed(self, plan):
        """The values of the project with the deeds of a plan."""
        return Further(self._reading, made(self.project, plan))

    def rewritten(self, name, text):
        """The values of the project with another text for a file, or without it."""
        return Further(self._reading, self.project.written(name, text))


class Further(Kept):
    """The values of a project that came from another one, of which those that can are kept."""

    def __init__(self, before, project):
        reading = Renewing(project, before)
        reading.renew()
        # Kept for as long as it was needed alone, so that a long history does not hang together.
        reading.before = None
        self._hold(reading)
