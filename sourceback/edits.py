"""Edits: their form, and what they wish."""

from sourceback.errors import BadEdit, NoFile
from sourceback.outputs import Outputs
from sourceback.shapes import are_pairs, is_count, is_part, is_place

# What the steps have behind their word.
PARTS = {
    "set": ("place", "worth"),
    "take": ("place", "count"),
    "put": ("place", "count", "count", "record"),
    "carry": ("place", "count", "place", "count"),
}


def wish_of(project, edit):
    """The (place, value) of all visible places and the (rows place, serials) that an edit leaves."""
    return outputs_of(project, edit).wish()


def wished(project, edit, file):
    """The labelled output of a document that an edit leaves."""
    outputs = outputs_of(project, edit)
    if file not in project.documents:
        raise NoFile(file)
    return outputs.record(file)


def outputs_of(project, edit):
    """The outputs in which all steps of an edit are made; raises BadEdit, StepError."""
    if not is_edit(edit):
        raise BadEdit(edit)
    outputs = Outputs(project)
    for step in edit:
        outputs.make(step)
    return outputs


def is_edit(value):
    """Tell whether any value is an edit by its form."""
    return isinstance(value, tuple) and all([is_step(step) for step in value])


def is_step(value):
    """Tell whether any value is a step by its form."""
    if not isinstance(value, tuple) or value == () or not isinstance(value[0], str):
        return False
    parts = PARTS.get(value[0])
    if parts is None or len(value) != len(parts) + 1:
        return False
    return all([has_form(form, part) for form, part in zip(parts, value[1:])])


def has_form(form, value):
    """Tell whether any value has one of the forms of parts."""
    if form == "place":
        return is_place(value)
    if form == "count":
        return is_count(value)
    return is_part(value) if form == "worth" else is_record(value)


def is_record(value):
    """Tell whether any value has the form of a labelled record."""
    return are_pairs(value) and all([isinstance(name, str) and is_content(part) for name, part in value])


def is_content(value):
    """Tell whether any value has the form of the value of a field."""
    return is_part(value) or is_record(value) or are_rows(value)


def are_rows(value):
    """Tell whether any value has the form of labelled rows."""
    return are_pairs(value) and all([is_count(serial) and is_record(part) for serial, part in value])
