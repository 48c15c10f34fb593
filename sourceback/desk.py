"""A desk: files, then a history of them, and an edit in hand, with which lines of words work."""

from sourceback.chronicles import shown_text, take_file
from sourceback.edits import outputs_of
from sourceback.errors import BadLine, BadText, NotOpen
from sourceback.history import History
from sourceback.projects import Project
from sourceback.scanning import Scanner
from sourceback.texts import show_edit, show_output, show_plan, show_spot, take_step
from sourceback.traces import sources
from sourceback.values import value_of
from sourceback.writer import literal_text

# What stands behind the word of a line.
FORMS = {
    "file": "file", "open": "", "show": "name", "text": "name", "value": "place", "step": "step",
    "edit": "", "forget": "", "lead": "", "plan": "", "why": "place", "worked": "",
    "undo": "", "redo": "", "mark": "name", "go": "name",
}
DONE = "ok"
NONE = "-"


class Desk:
    """Does what lines say, and answers."""

    def __init__(self):
        self._files = {}
        self._history = None
        self._edit = ()

    def say(self, line):
        """Do what any value says as a line, and answer."""
        word, told = read_line(line)
        if self._history is None:
            return self._prepare(word, told)
        if word == "open":
            raise BadLine(line)
        if word in ("file", "undo", "redo", "mark", "go"):
            self._change(word, told)
            self._edit = ()
            return DONE
        if word in ("step", "edit", "forget", "lead"):
            return self._work(word, told)
        return self._tell(word, told)

    def _prepare(self, word, told):
        """Keep a file, or make the history."""
        if word == "file":
            name, text = told
            self._files[name] = text
        elif word == "open":
            self._history = History(Project(tuple(list(self._files.items()))))
        else:
            raise NotOpen()
        return DONE

    def _change(self, word, told):
        """Write a file, or go to another state, or mark one."""
        if word == "file":
            name, text = told
            self._history.write(name, text)
        elif word == "undo":
            self._history.undo()
        elif word == "redo":
            self._history.redo()
        elif word == "mark":
            self._history.mark(told)
        else:
            self._history.go(told)

    def _work(self, word, told):
        """Work with the edit in hand."""
        if word == "edit":
            return show_edit(self._edit)
        if word == "step":
            edit = self._edit + (told,)
            outputs_of(self._history.project, edit)
            self._edit = edit
            return str(len(edit))
        answer = DONE
        if word == "lead":
            answer = str(self._history.lead(self._edit).cost)
        self._edit = ()
        return answer

    def _tell(self, word, told):
        """Tell something of the present state."""
        project = self._history.project
        if word == "show":
            return show_output(project, told)
        if word == "text":
            return shown_text(project[told])
        if word == "worked":
            return str(len(self._history.kept.worked))
        if word == "plan":
            step = self._history[self._history.place]
            return NONE if step is None or step[0] == "write" else show_plan(step[2])
        value = literal_text(value_of(project, told))
        if word == "value":
            return value
        spots = sources(project, ("value", told))
        return " ".join([show_spot(spot) for spot in spots]) if spots else NONE


def read_line(line):
    """The word of any value that is a line, and what it tells; raises BadLine."""
    if not isinstance(line, str):
        raise BadLine(line)
    word, blank, rest = line.partition(" ")
    if word not in FORMS or (blank == "") != (FORMS[word] == ""):
        raise BadLine(line)
    try:
        return word, told_by(FORMS[word], Scanner(rest))
    except BadText:
        raise BadLine(line) from None


def told_by(form, scanner):
    """What stands behind the word of a line."""
    if form == "":
        return None
    if form == "file":
        return take_file(scanner)
    if form == "name":
        told = scanner.take_name()
    elif form == "place":
        told = scanner.take_place()
    else:
        told = take_step(scanner)
    scanner.expect_end()
    return told
