"""The lines of a desk's text, read word by word as requests."""

from freightrights.errors import BadText
from freightrights.nets import net_from
from freightrights.shapes import climbs, is_digits, is_name, number_from
from freightrights.texts import names_from, numbers_from

# What stands behind the first word of a line: NAMEs and numbers, one word each, or what goes to the end of the line.
FORMS = {
    "net": ("name", "text"),
    "drop": ("name",),
    "rename": ("name", "name"),
    "undo": (),
    "most": ("name", "name", "number"),
    "room": ("name", "name", "number"),
    "arrive": ("name", "name", "number", "number"),
    "hours": ("name", "name", "hours"),
    "stand": ("name", "name", "name"),
    "names": (),
    "where": ("pairs",),
    "above": ("name",),
    "alike": (),
    "text": ("name",),
    "goods": ("name",),
    "cover": ("name", "some"),
    "can": ("name", "pairs"),
    "rank": ("name", "row"),
    "ask": ("name", "row"),
    "time": ("name", "row"),
    "lose": ("name", "name"),
}


def pairs_in(text):
    """The pairs of an ascending NAME and a number that are written so; None if they are not so written."""
    words = [] if text == "-" else text.split(" ")
    names, numbers = words[0::2], words[1::2]
    if len(names) != len(numbers) or not climbs(names):
        return None
    if not all([is_name(word) for word in names]) or not all([is_digits(word) for word in numbers]):
        return None
    return tuple([(name, number_from(number)) for name, number in zip(names, numbers)])


def text_in(form, text):
    """What a text of several words, by its form, stands for; None if it is not so written."""
    try:
        if form == "text":
            return net_from(text)
        found = numbers_from(text) if form == "hours" else names_from(text)
    except BadText:
        return None
    return found if form == "row" or climbs(found) else None


def worth_in(form, word):
    """What a word, or the rest of a line, stands for by its form; None if it is not so written."""
    if form == "name":
        return word if is_name(word) else None
    if form == "number":
        return number_from(word) if is_digits(word) else None
    return pairs_in(word) if form == "pairs" else text_in(form, word)


def request_in(line):
    """The request that is written so, its first word and what the others stand for; None if it is not so written."""
    word = line.partition(" ")[0]
    if word not in FORMS:
        return None
    forms = FORMS[word]
    words = line.split(" ", len(forms))
    if words[0] != word or len(words) != len(forms) + 1:
        return None
    found = [worth_in(form, part) for form, part in zip(forms, words[1:])]
    return None if None in found else (word,) + tuple(found)
