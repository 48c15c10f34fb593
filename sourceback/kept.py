"""Projects with all their things worked out, kept up to date when the sources change."""

from sourceback.errors import NoThing
from sourceback.plans import made
from sourceback.renewing import Renewing, has_thing_form, renewed


class Kept:
    """A project with the values of all its things; made of a project, or of a reading that has them already."""

    def __init__(self, project):
        self._reading = project if isinstance(project, Renewing) else renewed(project, None)
        self._worked = tuple(sorted(self._reading.fresh))

    @property
    def project(self):
        """The project."""
        return self._reading.stored

    @property
    def worked(self):
        """The things that were worked out, ascending."""
        return self._worked

    def __getitem__(self, at):
        if not has_thing_form(at) or at not in self._reading.worths:
            raise NoThing(at)
        return self._reading.worths[at]

    def __iter__(self):
        raise TypeError("kept values are not iterated over: take the things of the project")

    def __len__(self):
        return len(self._reading.worths)

    def changed(self, plan):
        """The values of the project with the deeds of a plan."""
        return Kept(renewed(made(self.project, plan), self._reading))

    def rewritten(self, name, text):
        """The values of the project with another text for a file, or without it."""
        return Kept(renewed(self.project.written(name, text), self._reading))
