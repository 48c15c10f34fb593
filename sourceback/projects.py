"""Projects: files whose sources are right, and the serials of their items."""

from sourceback.checking import checked
from sourceback.errors import BadFiles, NoFile, NoList
from sourceback.files import is_file

MOST_FILES = 6


class Project:
    """One to six files without an error of sources."""

    def __init__(self, files):
        if not are_files(files):
            raise BadFiles(files)
        self._files = tuple(sorted(files))
        self._texts = {name: text for name, text in self._files}
        self.sources = checked(self._files)
        counts = item_counts(self.sources)
        self._serials = {key: tuple(range(counts[key])) for key in counts}
        self._nexts = counts

    @property
    def files(self):
        """The files, ascending by name."""
        return self._files

    @property
    def names(self):
        """The names of the files, ascending."""
        return tuple([name for name, _ in self._files])

    @property
    def documents(self):
        """The names of the files with a document, ascending."""
        trees = self.sources.trees
        return tuple([name for name, _ in self._files if trees[name].document is not None])

    def __getitem__(self, at):
        if at not in self:
            raise NoFile(at)
        return self._texts[at]

    def __iter__(self):
        raise TypeError("a project is not iterated over: take its names or its files")

    def __contains__(self, x):
        return isinstance(x, str) and x in self._texts

    def __len__(self):
        return len(self._files)

    def __eq__(self, other):
        return isinstance(other, Project) and self._files == other._files

    def serials(self, file, name):
        """The serials of the items of a list, in its order."""
        if not self.has_list(file, name):
            raise NoList(file, name)
        return self._serials[(file, name)]

    def next_serial(self, file, name):
        """The serial that the next new item of a list gets."""
        if not self.has_list(file, name):
            raise NoList(file, name)
        return self._nexts[(file, name)]

    def has_list(self, file, name):
        """Tell whether any values are a file and a list in it."""
        return isinstance(file, str) and isinstance(name, str) and (file, name) in self._serials

    def lists(self):
        """The (file, list) of all lists, ascending."""
        return sorted(list(self._serials))

    def written(self, name, text):
        """The project with another text for a file, or without it if the text is None."""
        if text is None and name not in self:
            return self
        files = [file for file in self._files if file[0] != name]
        if text is not None:
            files.append((name, text))
        if not are_files(tuple(files)):
            raise BadFiles((name, text))
        project = Project(tuple(files))
        project._keep_serials(self)
        return project

    def _keep_serials(self, old):
        """Give the items the serials that those with their indexes had in an old project."""
        for file, name in list(self._serials):
            if old.has_list(file, name):
                count = len(self._serials[(file, name)])
                kept = old.serials(file, name)[:count]
                begin = old.next_serial(file, name)
                end = begin + count - len(kept)
                self._serials[(file, name)] = kept + tuple(range(begin, end))
                self._nexts[(file, name)] = end


def numbered(files, serials, nexts):
    """The project of some files, with the serials and next serials of its lists by (file, list)."""
    project = Project(files)
    project._serials = {key: tuple(serials[key]) for key in serials}
    project._nexts = {key: nexts[key] for key in nexts}
    return project


def are_files(value):
    """Tell whether any value is a tuple of files that a project can have."""
    if not isinstance(value, tuple) or not 1 <= len(value) <= MOST_FILES:
        return False
    if not all([is_file(file) for file in value]):
        return False
    return len(set([name for name, _ in value])) == len(value)


def item_counts(sources):
    """The number of items of each list, by (file, list)."""
    counts = {}
    for file, tree in sources.trees.items():
        for stock in tree.stocks():
            counts[(file, stock.name)] = len(stock.goods)
    return counts
