"""Edits, plans and outputs as texts."""

from sourceback.errors import BadEdit, BadText
from sourceback.edits import is_edit
from sourceback.scanning import Scanner
from sourceback.values import labelled
from sourceback.writer import literal_text

NONE = "-"
PARTED = "; "


def show_edit(edit):
    """The text of an edit."""
    if not is_edit(edit):
        raise BadEdit(edit)
    return PARTED.join([show_step(step) for step in edit]) if edit else NONE


def show_plan(plan):
    """The text of a plan."""
    return PARTED.join([show_deed(deed) for deed in plan]) if plan else NONE


def show_output(project, file):
    """The text of the output of a document."""
    return show_record(labelled(project, file), False)


def read_edit(text):
    """The edit that any value is the text of."""
    if not isinstance(text, str):
        raise BadText(text)
    scanner = Scanner(text)
    edit = take_edit(scanner)
    scanner.expect_end()
    return edit


def read_plan(text):
    """The plan that any value is the text of."""
    if not isinstance(text, str):
        raise BadText(text)
    scanner = Scanner(text)
    plan = take_plan(scanner)
    scanner.expect_end()
    return plan


def show_step(step):
    """The text of a step."""
    word, place = step[:2]
    parts = [word, show_place(place)]
    if word == "set":
        parts.append(literal_text(step[2]))
    elif word == "take":
        parts.append(f"#{step[2]}")
    elif word == "put":
        parts += [str(step[2]), f"#{step[3]}", show_record(step[4], True)]
    else:
        parts += [f"#{step[2]}", show_place(step[3]), str(step[4])]
    return " ".join(parts)


def show_deed(deed):
    """The text of a deed."""
    if deed[0] == "order":
        return " ".join(["order", f"{deed[1]}/{deed[2]}", show_serials(deed[3])])
    return " ".join([deed[0], show_spot(deed[1])] + [literal_text(worth) for worth in deed[2:]])


def show_serials(serials):
    """The text of serials."""
    return " ".join([f"#{serial}" for serial in serials]) if serials else NONE


def show_place(place):
    """The text of a place or rows place."""
    file, path = place
    return f"{file}/{show_path(path)}"


def show_spot(spot):
    """The text of a spot."""
    file, owner, path = spot
    return f"{file}/{owner}/{show_path(path)}"


def show_path(path):
    """The text of a path."""
    return ".".join([f"#{part}" if isinstance(part, int) else part for part in path])


def show_record(record, with_serials):
    """The text of a labelled record, with or without the serials of its rows."""
    parts = [f"{name}: {show_content(value, with_serials)}" for name, value in record]
    return " ".join(["{"] + parts + ["}"])


def show_content(value, with_serials):
    """The text of the value of a field."""
    if not isinstance(value, tuple):
        return literal_text(value)
    if value and isinstance(value[0][0], str):
        return show_record(value, with_serials)
    rows = [(f"#{serial} " if with_serials else "") + show_record(record, with_serials) for serial, record in value]
    return " ".join(["["] + rows + ["]"])


def take_edit(scanner):
    """The edit that comes next in a text."""
    if scanner.accepts(NONE):
        return ()
    steps = [take_step(scanner)]
    while scanner.accepts(PARTED):
        steps.append(take_step(scanner))
    return tuple(steps)


def take_step(scanner):
    """The step that comes next in a text."""
    word = scanner.take_word()
    if word not in ("set", "take", "put", "carry"):
        scanner.refuse()
    scanner.expect(" ")
    place = scanner.take_place()
    scanner.expect(" ")
    if word == "set":
        return (word, place, scanner.take_literal())
    if word == "take":
        return (word, place, scanner.take_serial())
    if word == "put":
        index = scanner.take_number()
        scanner.expect(" ")
        serial = scanner.take_serial()
        scanner.expect(" ")
        return (word, place, index, serial, scanner.take_record(0))
    serial = scanner.take_serial()
    scanner.expect(" ")
    other = scanner.take_place()
    scanner.expect(" ")
    return (word, place, serial, other, scanner.take_number())


def take_plan(scanner):
    """The plan that comes next in a text, in ascending order with different spots and lists."""
    if scanner.accepts(NONE):
        return ()
    deeds = [take_deed(scanner)]
    while scanner.accepts(PARTED):
        deeds.append(take_deed(scanner))
    about = [deed[1:3] if deed[0] == "order" else deed[1] for deed in deeds]
    if len(set(about)) < len(about):
        scanner.refuse()
    if not all([comes_ahead(deeds[at - 1], deeds[at]) for at in range(1, len(deeds))]):
        scanner.refuse()
    return tuple(deeds)


def take_deed(scanner):
    """The deed that comes next in a text."""
    word = scanner.take_word()
    if word not in ("set", "gone", "order"):
        scanner.refuse()
    scanner.expect(" ")
    if word == "order":
        file = scanner.take_name()
        scanner.expect("/")
        name = scanner.take_name()
        scanner.expect(" ")
        return (word, file, name, take_serials(scanner))
    spot = scanner.take_spot()
    if word == "gone":
        return (word, spot)
    scanner.expect(" ")
    return (word, spot, scanner.take_literal())


def take_serials(scanner):
    """The serials that come next in a text."""
    if scanner.accepts(NONE):
        return ()
    serials = [scanner.take_serial()]
    while scanner.sees(" #"):
        scanner.expect(" ")
        serials.append(scanner.take_serial())
    return tuple(serials)


def comes_ahead(one, other):
    """Tell whether a tuple stands ahead of another one in the order of sorting; parts that have none do not."""
    for part, twin in zip(one, other):
        if part != twin:
            if isinstance(part, tuple) and isinstance(twin, tuple):
                return comes_ahead(part, twin)
            return isinstance(part, int) == isinstance(twin, int) and part < twin
    return len(one) < len(other)
