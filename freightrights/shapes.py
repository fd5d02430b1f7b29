"""The forms of plain values: numbers, NAMEs, rows, digits."""


def frozen(told):
    """The same value with tuples in the place of lists, at any depth."""
    if isinstance(told, (list, tuple)):
        return tuple([frozen(part) for part in told])
    return told


def is_number(thing):
    """Whether thing is a number: True and False are none."""
    return isinstance(thing, int) and not isinstance(thing, bool)


def is_from(thing, least):
    """Whether thing is a number from least on."""
    return is_number(thing) and thing >= least


def is_name(thing):
    """Whether thing is a NAME: 1 to 8 letters a to z."""
    if not isinstance(thing, str) or not 1 <= len(thing) <= 8:
        return False
    return all(["a" <= sign <= "z" for sign in thing])


def is_row(thing, many):
    """Whether thing is a tuple of just so many."""
    return isinstance(thing, tuple) and len(thing) == many


def climbs(row):
    """Whether the row is ascending, without duplicates; its parts can be compared."""
    return all([row[at] < row[at + 1] for at in range(len(row) - 1)])


def is_hour(thing, hours):
    """Whether thing is one of so many hours."""
    return is_from(thing, 0) and thing < hours


def is_set_of_numbers(thing):
    """Whether thing is an ascending tuple of numbers from 0."""
    return isinstance(thing, tuple) and all([is_from(part, 0) for part in thing]) and climbs(thing)


def is_set_of_hours(thing, hours):
    """Whether thing is an ascending tuple of some of so many hours."""
    return is_set_of_numbers(thing) and all([part < hours for part in thing])


def is_set_of(thing, names):
    """Whether thing is an ascending tuple of some of these names."""
    if not isinstance(thing, tuple) or not all([isinstance(part, str) for part in thing]):
        return False
    return all([part in names for part in thing]) and climbs(thing)


def is_digits(text):
    """Whether text is a number from 0 in decimal digits without a needless 0 in front."""
    if text == "" or not all(["0" <= sign <= "9" for sign in text]):
        return False
    return text == "0" or text[0] != "0"


def number_from(digits):
    """The number with these digits, read part by part: Python does not read very many at once."""
    first = len(digits) - len(digits) // 60 * 60
    number = int(digits[:first]) if first > 0 else 0
    for at in range(first, len(digits), 60):
        number = number * 10 ** 60 + int(digits[at:at + 60])
    return number


def digits_of(number):
    """The digits of a number from 0, written part by part: Python does not write very many at once."""
    parts = []
    while number >= 10 ** 60:
        number, low = divmod(number, 10 ** 60)
        parts.append(str(low).zfill(60))
    parts.append(str(number))
    return "".join(parts[::-1])
