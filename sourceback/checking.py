"""The eight phases in which sources are looked through for errors."""

from sourceback.circles import circle_faults
from sourceback.errors import SourceError
from sourceback.fields import field_faults
from sourceback.grammar import tree_of
from sourceback.kinds import Kinds, kind_faults
from sourceback.layers import levels_of, patterns
from sourceback.naming import import_faults, name_faults, ring_faults, twice_faults
from sourceback.sources import Sources


def checked(files):
    """The Sources of an ascending tuple of files; raises SourceError."""
    trees = [tree_of(name, text) for name, text in files]
    by_name = {tree.name: tree for tree in trees}
    refuse("import", trees, [import_faults(by_name, tree) for tree in trees])
    refuse("twice", trees, [twice_faults(by_name, tree) for tree in trees])
    sources = Sources(trees)
    refuse("name", trees, [name_faults(sources, tree) for tree in trees])
    refuse("ring", trees, [ring_faults(sources, tree) for tree in trees])
    refuse("field", trees, [field_faults(sources, tree) for tree in trees])
    kinds = Kinds(sources)
    refuse("kind", trees, [kind_faults(sources, kinds, tree) for tree in trees])
    sources.layers = all_layers(sources)
    refuse("circle", trees, [circle_faults(sources.layers, tree) for tree in trees])
    return sources


def refuse(word, trees, faults):
    """Raise the first of the errors that a phase has found in each of the files, if there is one."""
    for tree, indexes in zip(trees, faults):
        if indexes:
            raise SourceError(word, tree.name, min(indexes))


def all_layers(sources):
    """The levels of all places of all documents, by (file, pattern)."""
    layers = {}
    for file, tree in sources.trees.items():
        if tree.document is not None:
            for pattern in patterns(sources, file):
                layers[(file, pattern)] = levels_of(sources, file, pattern)
    return layers
