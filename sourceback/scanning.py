"""Reading texts of edits, plans and histories, with single blanks just where their forms have one."""

from sourceback.errors import BadText
from sourceback.files import DIGITS, LETTERS, QUOTE, is_name, run_end, string_end
from sourceback.numerals import number_in

MOST_DIGITS = 1000
DEEPEST = 40


class Scanner:
    """Goes through a text; raises BadText with it where it is not as it must be."""

    def __init__(self, whole):
        self.whole = whole
        self.at = 0

    def refuse(self):
        """Raise the error."""
        raise BadText(self.whole)

    def sees(self, sign):
        """Tell whether some characters come next."""
        return self.whole[self.at:self.at + len(sign)] == sign

    def accepts(self, sign):
        """Go over some characters if they come next, and tell whether they did."""
        if not self.sees(sign):
            return False
        self.at += len(sign)
        return True

    def expect(self, sign):
        """Go over some characters."""
        if not self.accepts(sign):
            self.refuse()

    def expect_end(self):
        """Refuse whatever comes next."""
        if self.at < len(self.whole):
            self.refuse()

    def take_to(self, end):
        """Go over what stands ahead of an index."""
        taken = self.whole[self.at:end]
        self.at = end
        return taken

    def take_word(self):
        """A run of letters, perhaps of none."""
        return self.take_to(run_end(self.whole, self.at, LETTERS))

    def take_name(self):
        """A name."""
        name = self.take_word()
        if not is_name(name):
            self.refuse()
        return name

    def take_number(self):
        """An integer from 0 without leading zeros."""
        digits = self.take_to(run_end(self.whole, self.at, DIGITS))
        if not 1 <= len(digits) <= MOST_DIGITS or (digits[0] == "0" and digits != "0"):
            self.refuse()
        return number_in(digits)

    def take_serial(self):
        """A serial."""
        self.expect("#")
        return self.take_number()

    def take_literal(self):
        """A number or string."""
        if self.sees(QUOTE):
            end = string_end(self.whole, self.at)
            if end == self.at:
                self.refuse()
            return self.take_to(end)[1:-1]
        if not self.accepts("-"):
            return self.take_number()
        if self.sees("0"):
            self.refuse()
        return -self.take_number()

    def take_path(self, with_stars):
        """The parts of a path."""
        parts = [self.take_part(with_stars)]
        while self.accepts("."):
            parts.append(self.take_part(with_stars))
        return tuple(parts)

    def take_part(self, with_stars):
        """A name, a serial, or perhaps a star."""
        if with_stars and self.accepts("*"):
            return "*"
        return self.take_serial() if self.sees("#") else self.take_name()

    def take_place(self):
        """A place or rows place."""
        file = self.take_name()
        self.expect("/")
        return (file, self.take_path(False))

    def take_spot(self):
        """A spot."""
        file = self.take_name()
        self.expect("/")
        owner = "" if self.sees("/") else self.take_name()
        self.expect("/")
        return (file, owner, self.take_path(True))

    def take_record(self, depth):
        """A labelled record that has so many around it."""
        if depth == DEEPEST:
            self.refuse()
        pairs = []
        self.expect("{")
        while not self.accepts(" }"):
            self.expect(" ")
            name = self.take_name()
            self.expect(": ")
            pairs.append((name, self.take_content(depth)))
        return tuple(pairs)

    def take_content(self, depth):
        """The value of a field of a record that has so many around it."""
        if self.accepts("["):
            return self.take_rows(depth)
        # An empty record is written like empty rows here.
        if self.sees("{ }"):
            self.refuse()
        return self.take_record(depth + 1) if self.sees("{") else self.take_literal()

    def take_rows(self, depth):
        """Labelled rows behind their bracket, or an empty record."""
        rows = []
        while not self.accepts(" ]"):
            self.expect(" ")
            serial = self.take_serial()
            self.expect(" ")
            rows.append((serial, self.take_record(depth + 1)))
        return tuple(rows)
