"""Working out things anew where their traces are other ones than before."""

from sourceback.reading import Reading
from sourceback.shapes import is_part, is_place
from sourceback.traces import all_things, steps_of, worth_of


class Renewing(Reading):
    """A reading that keeps what was worked out before for each thing whose trace is as it was.

    steps and worths have the traces and the values of things; fresh has the things that were worked out.
    """

    def __init__(self, project, before):
        super().__init__(project)
        self.before = before
        self.steps = {}
        self.worths = {}
        self.fresh = []

    def reckoned(self, file, path):
        """The value of a place, when all that it reads have one."""
        thing = ("value", (file, path))
        if not self.is_as_before(thing):
            self.worths[thing] = super().reckoned(file, path)
        return self.worths[thing]

    def renew(self):
        """Give all things a value."""
        for thing in all_things(self):
            if thing[0] == "value":
                file, path = thing[1]
                self.worth_at(file, path)
            elif not self.is_as_before(thing):
                self.worths[thing] = worth_of(self, thing)

    def is_as_before(self, thing):
        """Find the trace of a thing, and keep the value if both are as before; tell whether they are."""
        self.steps[thing] = steps_of(self, thing)
        if self.before is None or self.before.steps.get(thing) != self.steps[thing]:
            self.fresh.append(thing)
            return False
        self.worths[thing] = self.before.worths[thing]
        return True


def renewed(project, before):
    """A reading with all things of a project worked out, but for those that can be kept from one before."""
    reading = Renewing(project, before)
    reading.renew()
    # Needed no more, so that a long history does not hang together.
    reading.before = None
    return reading


def has_thing_form(value):
    """Tell whether any value has the form of a thing."""
    if not isinstance(value, tuple) or len(value) not in (2, 3) or not isinstance(value[0], str):
        return False
    return is_place(value[1]) and all([is_part(part) for part in value[2:]])
