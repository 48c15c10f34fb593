"""Places that read themselves: the phase circle."""

from sourceback.layers import first_expressed, reads_at


def circle_faults(layers, tree):
    """The index of the word document if a place of the document of this file reads itself."""
    read_by = {}
    unread = {}
    for (file, pattern), levels in layers.items():
        if file == tree.name:
            reads = possible_reads(levels, pattern)
            unread[pattern] = len(reads)
            for read in reads:
                read_by.setdefault(read, []).append(pattern)
    return [] if can_be_told(unread, read_by) else [tree.document.index]


def possible_reads(levels, pattern):
    """The patterns that the outermost expression of a place reads, on both ways of a choice."""
    level = first_expressed(levels)
    return [] if level is None else reads_at(level, pattern, level.value.paths())


def can_be_told(unread, read_by):
    """Tell whether all can be worked out: each needs so many, and is needed by those."""
    left = {pattern: unread[pattern] for pattern in unread}
    ready = [pattern for pattern in unread if unread[pattern] == 0]
    told = 0
    while ready:
        pattern = ready.pop()
        told += 1
        for reader in read_by.get(pattern, []):
            left[reader] -= 1
            if left[reader] == 0:
                ready.append(reader)
    return told == len(unread)
