"""What fits into an output: strings, values and labelled records."""

from sourceback.files import LONGEST_STRING, is_inner
from sourceback.trees import Loop, Record


def fits_kind(kind, value):
    """Tell whether an integer or string is of a kind, and such as a file can have."""
    if isinstance(value, int):
        return kind == "number"
    return kind == "text" and is_string(value)


def is_string(value):
    """Tell whether a string can stand between quotes in a file."""
    return len(value) <= LONGEST_STRING and all([is_inner(sign) for sign in value])


class Fitting:
    """Tells whether what has the form of a labelled record is one of a template."""

    def __init__(self, sources, kinds):
        self.sources = sources
        self.finder = kinds

    def is_record(self, base, record):
        """Tell whether a value has the visible fields of a base in their order, each of its kind."""
        if not isinstance(record, tuple):
            return False
        entries = [entry for entry in base.body.entries if not entry.hidden]
        if [name for name, _ in record] != [entry.name for entry in entries]:
            return False
        return all([self.fits(base, entry, pair[1]) for entry, pair in zip(entries, record)])

    def fits(self, base, entry, value):
        """Tell whether a field can have a value."""
        if isinstance(entry.value, Record):
            return self.is_record(self.sources.inner(base, entry), value)
        if isinstance(entry.value, Loop):
            return self.are_rows(self.sources.inner(base, entry), value)
        return isinstance(value, (int, str)) and fits_kind(self.finder.of(base, entry), value)

    def are_rows(self, base, value):
        """Tell whether a value is rows of a template with this base."""
        if not isinstance(value, tuple) or not all([isinstance(serial, int) for serial, _ in value]):
            return False
        return all([self.is_record(base, record) for _, record in value])
