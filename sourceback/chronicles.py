"""The lines of the text of a history."""

from sourceback.errors import BadText
from sourceback.files import is_text
from sourceback.projects import Project, numbered
from sourceback.scanning import Scanner
from sourceback.texts import show_edit, show_plan, show_serials, take_edit, take_plan, take_serials


class Chronicle:
    """What the text of a history tells: the first project, the steps to the other states, the marks, the place."""

    def __init__(self, start, steps, marked, at):
        self.start = start
        self.steps = steps
        self.marked = marked
        self.at = at


def shown_text(text):
    """A text in one line, with a backslash and n for each line feed."""
    return text.replace("\n", "\\n")


def unshown_text(line):
    """The text of a file that is shown in one line; raises BadText if there can be no such file."""
    parts = line.split("\\")
    if not all([part[:1] == "n" for part in parts[1:]]):
        raise BadText(line)
    text = "\n".join(parts[:1] + [part[1:] for part in parts[1:]])
    if "\n" in line or not is_text(text):
        raise BadText(line)
    return text


def project_lines(project):
    """The lines for the first project of a history."""
    lines = [f"file {name} {shown_text(text)}" for name, text in project.files]
    for file, name in project.lists():
        serials = project.serials(file, name)
        following = project.next_serial(file, name)
        if serials != tuple(range(len(serials))) or following != len(serials):
            lines.append(f"serials {file}/{name} {show_serials(serials)} next {following}")
    return lines


def step_line(step):
    """The line for how a state came."""
    if step[0] != "write":
        return f"{step[0]} {show_edit(step[1])} | {show_plan(step[2])}"
    return f"drop {step[1]}" if step[2] is None else f"write {step[1]} {shown_text(step[2])}"


def read_chronicle(text):
    """What the lines of a text tell of a history; raises errors for lines that have none of the forms.

    Whether each line stands where it must is not asked here.
    """
    found = {word: [] for word in ("file", "serials", "step", "mark", "at")}
    for line in text.split("\n"):
        word, _, rest = line.partition(" ")
        if word in ("lead", "merge", "write", "drop"):
            found["step"].append(take_step_line(word, Scanner(rest)))
        elif word in found and word != "step":
            found[word].append(Scanner(rest))
        else:
            raise BadText(line)
    if found["at"] == []:
        raise BadText(text)
    project = project_of(found["file"], found["serials"])
    marked = {}
    for scanner in found["mark"]:
        name = scanner.take_name()
        scanner.expect(" ")
        marked[name] = take_last_number(scanner)
    return Chronicle(project, found["step"], marked, take_last_number(found["at"][0]))


def take_last_number(scanner):
    """The number with which a line ends."""
    number = scanner.take_number()
    scanner.expect_end()
    return number


def take_file(scanner):
    """The name and the text that the rest of a line tells."""
    name = scanner.take_name()
    scanner.expect(" ")
    return (name, unshown_text(scanner.take_to(len(scanner.whole))))


def take_step_line(word, scanner):
    """How a state came, by the rest of a line."""
    if word == "write":
        return (word,) + take_file(scanner)
    if word == "drop":
        name = scanner.take_name()
        scanner.expect_end()
        return ("write", name, None)
    edit = take_edit(scanner)
    scanner.expect(" | ")
    plan = take_plan(scanner)
    scanner.expect_end()
    return (word, edit, plan)


def project_of(files, numbers):
    """The project of the files and serials that the rests of lines tell."""
    project = Project(tuple([take_file(scanner) for scanner in files]))
    serials = {key: project.serials(key[0], key[1]) for key in project.lists()}
    nexts = {key: project.next_serial(key[0], key[1]) for key in project.lists()}
    for scanner in numbers:
        file = scanner.take_name()
        scanner.expect("/")
        key = (file, scanner.take_name())
        scanner.expect(" ")
        told = take_serials(scanner)
        scanner.expect(" next ")
        following = take_last_number(scanner)
        if key not in serials or len(told) != len(serials[key]) or len(set(told)) < len(told):
            scanner.refuse()
        if any([serial >= following for serial in told]):
            scanner.refuse()
        serials[key] = told
        nexts[key] = following
    return numbered(project.files, serials, nexts)
