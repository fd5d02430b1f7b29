"""Texts of NAMEs, of numbers and of ARRIVALS."""

from freightrights.entries import is_goods_row
from freightrights.errors import BadText
from freightrights.shapes import digits_of, is_digits, is_name, number_from


def text_of(parts, between):
    """The parts with this between two of them; - for none."""
    return between.join(parts) if parts else "-"


def pieces_of(text, between):
    """The pieces of a text; the text - has none."""
    return [] if text == "-" else text.split(between)


def names_text(names):
    """The text of a row of NAMEs."""
    return text_of(names, " ")


def numbers_text(numbers):
    """The text of a row of numbers."""
    return text_of([digits_of(number) for number in numbers], " ")


def arrivals_text(arrivals):
    """The text of ARRIVALS."""
    return text_of([f"{yard} {digits_of(hour)} {digits_of(amount)}" for yard, hour, amount in arrivals], "; ")


def names_from(text):
    """The tuple of the NAMEs that are written so."""
    pieces = pieces_of(text, " ")
    for at, piece in enumerate(pieces):
        if not is_name(piece):
            raise BadText(at)
    return tuple(pieces)


def numbers_from(text):
    """The tuple of the numbers that are written so."""
    pieces = pieces_of(text, " ")
    for at, piece in enumerate(pieces):
        if not is_digits(piece):
            raise BadText(at)
    return tuple([number_from(piece) for piece in pieces])


def goods_in(piece):
    """The triple that is written so; None if the piece is not so written."""
    words = piece.split(" ")
    if len(words) != 3 or not (is_digits(words[1]) and is_digits(words[2])):
        return None
    row = (words[0], number_from(words[1]), number_from(words[2]))
    return row if is_goods_row(row) else None


def arrivals_from(text):
    """The ARRIVALS that are written so."""
    rows = []
    for at, piece in enumerate(pieces_of(text, "; ")):
        row = goods_in(piece)
        if row is None or (rows and not rows[-1][:2] < row[:2]):
            raise BadText(at)
        rows.append(row)
    return tuple(rows)
