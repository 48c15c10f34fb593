"""Numbers in digits. Python itself turns no more than some thousand digits at once; numbers may be longer."""

AT_ONCE = 64
UNIT = 10 ** 64


def numeral(number):
    """A number in digits, behind a minus if it is below 0."""
    parts = []
    left = abs(number)
    while left >= UNIT:
        parts.append(str(left % UNIT).zfill(AT_ONCE))
        left = left // UNIT
    parts.append(str(left))
    parts.reverse()
    return ("-" if number < 0 else "") + "".join(parts)


def number_in(digits):
    """The number that some digits tell."""
    end = len(digits) % AT_ONCE
    number = 0 if end == 0 else int(digits[:end])
    while end < len(digits):
        number = number * UNIT + int(digits[end:end + AT_ONCE])
        end += AT_ONCE
    return number
