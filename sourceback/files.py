"""Names, the texts that files can have, and their tokens."""

WORDS = (
    "import", "template", "list", "document", "let", "new", "for",
    "in", "where", "give", "if", "then", "else",
)
LETTERS = "abcdefghijklmnopqrstuvwxyz"
DIGITS = "0123456789"
SIGNS = "{}[]():.,=+-*"
QUOTE = '"'
LONGEST_NAME = 12
LONGEST_STRING = 60


def is_name(value):
    """Tell whether any value is a name."""
    if not isinstance(value, str) or not 1 <= len(value) <= LONGEST_NAME:
        return False
    return all([letter in LETTERS for letter in value]) and value not in WORDS


def is_text(value):
    """Tell whether any value is a text that a file can have."""
    if not isinstance(value, str):
        return False
    return all([is_inner(sign) or sign == QUOTE or sign == "\n" for sign in value])


def is_file(value):
    """Tell whether any value is a file: a tuple of a name and a text."""
    return isinstance(value, tuple) and len(value) == 2 and is_name(value[0]) and is_text(value[1])


def is_inner(sign):
    """Tell whether a character can stand between the quotes of a string."""
    return " " <= sign <= "~" and sign != QUOTE and sign != "\\"


def tokens(text):
    """Go through the (index, token) of a text, up to a character that begins none."""
    start = next_start(text, 0)
    while start < len(text):
        end = token_end(text, start)
        if end == start:
            return
        yield (start, text[start:end])
        start = next_start(text, end)


def next_start(text, at):
    """The index of the first character from here on that is no blank, line feed or remark."""
    while at < len(text) and text[at] in " \n#":
        if text[at] == "#":
            at = line_end(text, at)
        else:
            at += 1
    return at


def line_end(text, at):
    """The index at which the line ends."""
    end = text.find("\n", at)
    return len(text) if end < 0 else end


def token_end(text, start):
    """The index behind the token that begins here, or start if none does."""
    sign = text[start]
    if sign in SIGNS:
        return start + 1
    if sign in LETTERS:
        return run_end(text, start, LETTERS)
    if sign in DIGITS:
        end = run_end(text, start, DIGITS)
        return start if sign == "0" and end > start + 1 else end
    if sign == QUOTE:
        return string_end(text, start)
    return start


def run_end(text, at, letters):
    """The index behind the run of these letters."""
    while at < len(text) and text[at] in letters:
        at += 1
    return at


def string_end(text, start):
    """The index behind the string that begins here, or start if it does not end as it must."""
    at = start + 1
    while at < len(text) and is_inner(text[at]):
        at += 1
    if at == len(text) or text[at] != QUOTE or at - start - 1 > LONGEST_STRING:
        return start
    return at + 1
