"""Sets as ascending tuples: parts of them, what several have together or in common."""


def joined(one, other):
    """The set of what is in the one or in the other."""
    return tuple(sorted(set(one + other)))


def common(one, other):
    """The set of what is in both."""
    return tuple([part for part in one if part in other])


def without(one, other):
    """The set of what is in the one and not in the other."""
    return tuple([part for part in one if part not in other])


def lies_within(one, other):
    """Whether all that is in the one is in the other."""
    return all([part in other for part in one])


def all_sets(names):
    """The ascending tuple of all sets of these."""
    rows = [()]
    for name in names:
        rows = rows + [row + (name,) for row in rows]
    return tuple(sorted(rows))


def all_unions(first, rows):
    """The ascending list of first, and of what it has together with any of rows, however many of them."""
    found = {first: True}
    for row in rows:
        for part in list(found):
            found[joined(part, row)] = True
    return sorted(found)
