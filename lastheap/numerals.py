"""Numbers as they stand in texts."""

DIGITS = "0123456789"
# Numbers are written in pieces of so many digits, since `str` refuses very long ones.
PIECE_DIGITS = 60
PIECE = 10 ** 60


def is_numeral(text, most):
    """Whether this is a number from 0 on, of at most so many digits, without leading zeros."""
    if not 1 <= len(text) <= most or text.strip(DIGITS) != "":
        return False
    return text == "0" or text[0] != "0"


def is_signed_numeral(text, most):
    """Whether this is such a number, or one below 0."""
    if text.startswith("-"):
        return text != "-0" and is_numeral(text[1:], most)
    return is_numeral(text, most)


def number_text(number):
    """The digits of a number, with a minus before them if it is negative."""
    sign = ""
    if number < 0:
        sign = "-"
    left = abs(number)
    pieces = []
    while left >= PIECE:
        left, piece = divmod(left, PIECE)
        pieces.append(str(piece).zfill(PIECE_DIGITS))
    pieces.append(sign + str(left))
    return "".join(pieces[::-1])
