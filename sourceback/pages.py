"""The text of a file with its tokens, and changes of it that are all made at once."""

from sourceback.files import LETTERS, line_end, tokens


class Page:
    """A text with the changes of it: (start, end, new text), where start and end are indexes of the old text."""

    def __init__(self, text):
        self.old = text
        self.found = list(tokens(text))
        self.numbers = {index: number for number, (index, _) in enumerate(self.found)}
        self.closing = closing_braces(self.found)
        self.patches = []

    def change(self, start, end, new):
        """Write something in the place of what stands between two indexes."""
        self.patches.append((start, end, new))

    def rewrite(self, start, end, new):
        """Write something, in which the changes between two indexes are made already, in the place of all there."""
        self.patches = [patch for patch in self.patches if patch[0] < start or end < patch[1]]
        self.change(start, end, new)

    def end_at(self, index):
        """The index behind the token that begins at an index."""
        return index + len(self.found[self.numbers[index]][1])

    def next_at(self, index):
        """The index of the token behind the one that begins at an index."""
        return self.found[self.numbers[index] + 1][0]

    def next_sign(self, index, sign):
        """The index of the first token from an index on that is this sign."""
        while self.found[self.numbers[index]][1] != sign:
            index = self.next_at(index)
        return index

    def end_ahead(self, index):
        """The index behind the token that stands ahead of the one that begins at an index."""
        ahead, token = self.found[self.numbers[index] - 1]
        return ahead + len(token)

    def gap_at(self, index):
        """The index at which the blanks and line feeds ahead of a token begin, behind a token or remark."""
        at = start = self.end_ahead(index)
        while at < index:
            if self.old[at] == "#":
                # A remark ends with its line feed.
                at = start = line_end(self.old, at) + 1
            else:
                at += 1
        return start

    def literal_end(self, literal):
        """The index behind the digits or the string of a literal."""
        index = literal.index
        return self.end_at(self.next_at(index) if self.old[index] == "-" else index)

    def body_end(self, body):
        """The index behind the closing brace of a body."""
        return self.closing[body.index] + 1

    def entry_end(self, body, entry):
        """The index behind an entry of an overriding body."""
        behind = [other.index for other in body.entries if other.index > entry.index]
        return self.end_ahead(min(behind + [self.closing[body.index]]))

    def part(self, start, end):
        """What stands between two indexes, with all changes there made."""
        parts = []
        at = start
        for first, last, new in joined(sorted(self.patches)):
            if start <= first and last <= end:
                parts.append(self.old[at:first])
                parts.append(new if new != "" else self.kept_blank(first, last))
                at = last
        return "".join(parts) + self.old[at:end]

    def kept_blank(self, start, end):
        """The blank that stays if two letters would touch behind what is taken away."""
        touch = self.old[start - 1] in LETTERS and self.old[end] in LETTERS
        return " " if touch else ""


def closing_braces(found):
    """The index of the closing brace for the index of each opening one."""
    closing = {}
    waiting = []
    for index, token in found:
        if token == "{":
            waiting.append(index)
        elif token == "}":
            closing[waiting.pop()] = index
    return closing


def joined(changes):
    """Ascending changes, with those that take away what stands side by side as one."""
    found = []
    for start, end, new in changes:
        if found and new == "" and found[-1][1:] == (start, ""):
            found[-1] = (found[-1][0], end, "")
        else:
            found.append((start, end, new))
    return found
