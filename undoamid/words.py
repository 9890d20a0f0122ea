"""Names and numbers as they are written in texts."""

MOST_LETTERS = 6
MOST_DIGITS = 21
PIECE_DIGITS = 64
PIECE = 10 ** 64


def is_name(text):
    """Whether a string is a name: one to six lower-case letters."""
    return 1 <= len(text) <= MOST_LETTERS and all(["a" <= letter <= "z" for letter in text])


def number_of(text):
    """The integer of which this is the decimal text of at most 21 digits, or None."""
    digits = text[1:] if text.startswith("-") else text
    if not 1 <= len(digits) <= MOST_DIGITS or not all(["0" <= digit <= "9" for digit in digits]):
        return None
    number = int(text)
    # An integer has one text only; so leading zeros and -0 do not pass.
    return number if str(number) == text else None


def text_of_number(number):
    """The decimal text of an integer."""
    # Python refuses to write more than 4,300 digits at once; so they are written in pieces.
    sign = "-" if number < 0 else ""
    rest = abs(number)
    pieces = []
    while rest >= PIECE:
        rest, low = divmod(rest, PIECE)
        pieces.append(str(low).zfill(PIECE_DIGITS))
    pieces.append(str(rest))
    digits = "".join(pieces[::-1])
    return f"{sign}{digits}"
