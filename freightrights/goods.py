"""ARRIVALS made of others."""


def merged(rows):
    """The ARRIVALS of these triples: what stands for one spot is added."""
    amounts = {}
    for yard, hour, amount in rows:
        amounts[(yard, hour)] = amounts.get((yard, hour), 0) + amount
    return tuple([spot + (amounts[spot],) for spot in sorted(amounts)])


def one_more(arrivals, yard, hour):
    """The ARRIVALS with one unit more at this spot."""
    return merged(arrivals + ((yard, hour, 1),))
