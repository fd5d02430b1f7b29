"""NETS: what they are, what stands in them, what goods can reach, others made of them, their texts."""

from freightrights.checks import customer_row, line_row, row_named, yard_row
from freightrights.entries import goes_on, is_goods_row, is_known, is_whole_net
from freightrights.errors import BadText, Known, NotNet
from freightrights.shapes import climbs, digits_of, frozen, is_digits, is_from, is_hour, is_row, number_from


def is_net(thing):
    """Whether thing is a NET."""
    return is_whole_net(thing)


def is_arrivals(net, thing):
    """Whether thing is ARRIVALS of the NET."""
    if not isinstance(thing, tuple) or not all([is_goods_row(row) for row in thing]):
        return False
    rooms = dict(frozen(net[1]))
    if not all([is_known(row[0], rooms) and is_hour(row[1], net[0]) for row in thing]):
        return False
    return climbs([row[:2] for row in thing])


def is_taking(net, thing):
    """Whether thing is a TAKING, or WISHES, of the NET."""
    return is_row(thing, len(net[3])) and all([is_from(number, 0) for number in thing])


def yard_names(net):
    """The set of the NAMEs of the yards."""
    return tuple([row[0] for row in net[1]])


def line_names(net):
    """The set of the NAMEs of the lines."""
    return tuple([row[0] for row in net[2]])


def customer_names(net):
    """The set of the NAMEs of the customers."""
    return tuple([row[0] for row in net[3]])


def room_of(net, yard):
    """The room of this yard."""
    return yard_row(net, yard)[1]


def line_of(net, line):
    """The tuple (start, goal, late, most) of this line."""
    return frozen(line_row(net, line))[1:]


def place_of(net, customer):
    """The pair (yard, own) of this customer."""
    return frozen(customer_row(net, customer))[1:]


def spots(net):
    """The set of all spots."""
    return tuple([(row[0], hour) for row in net[1] for hour in range(net[0])])


def spots_of(net, customers):
    """The set of the spots of these customers."""
    rows = [customer_row(net, name) for name in customers]
    return tuple(sorted({(yard, hour) for _, yard, own in rows for hour in own}))


def arrives(arrivals, yard, hour):
    """How much arrives at this spot; 0 for what is no spot."""
    return sum([row[2] for row in arrivals if row[0] == yard and row[1] == hour])


def next_spots(net, yard, hour):
    """The spots to which goods can come from this one at once: by lying over, by a line."""
    rows = []
    if room_of(net, yard) >= 1:
        rows.append((yard, hour + 1))
    for _, start, goal, late, most in net[2]:
        if start == yard and most >= 1:
            rows.append((goal, hour + late))
    return [row for row in rows if row[1] < net[0]]


def reached_spots(net, yard, hour):
    """The set of the spots to which goods can come from this one."""
    yard_row(net, yard)
    found = {(yard, hour): True}
    ahead = [(yard, hour)]
    while ahead:
        here, now = ahead.pop()
        for spot in next_spots(net, here, now):
            if spot not in found:
                found[spot] = True
                ahead.append(spot)
    return tuple(sorted(found))


def customers_reached(net, yard, hour):
    """The set of the customers with a spot to which goods can come from this one."""
    reached = reached_spots(net, yard, hour)
    return tuple([name for name in customer_names(net) if any([spot in reached for spot in spots_of(net, (name,))])])


def with_rows(net, part, rows):
    """The NET with these rows, ordered by name, in the place of one of its parts."""
    parts = list(frozen(net))
    parts[part] = tuple(sorted(rows))
    return tuple(parts)


def with_room(net, yard, room):
    """The NET with this room of this yard."""
    net = frozen(net)
    old = yard_row(net, yard)
    return with_rows(net, 1, [row for row in net[1] if row != old] + [(yard, room)])


def with_most(net, line, most):
    """The NET with this most of this line."""
    net = frozen(net)
    old = line_row(net, line)
    return with_rows(net, 2, [row for row in net[2] if row != old] + [old[:4] + (most,)])


def with_line(net, line, start, goal, late, most):
    """The NET with a line more."""
    net = frozen(net)
    if row_named(net[2], line) is not None:
        raise Known(line)
    yard_row(net, start)
    yard_row(net, goal)
    new = with_rows(net, 2, net[2] + ((line, start, goal, late, most),))
    if not is_net(new):
        raise NotNet()
    return new


def without_line(net, line):
    """The NET without this line."""
    net = frozen(net)
    old = line_row(net, line)
    return with_rows(net, 2, [row for row in net[2] if row != old])


def with_customer(net, customer, yard, hours):
    """The NET with a customer more."""
    net = frozen(net)
    if row_named(net[3], customer) is not None:
        raise Known(customer)
    yard_row(net, yard)
    return with_rows(net, 3, net[3] + ((customer, yard, frozen(hours)),))


def without_customer(net, customer):
    """The NET without this customer."""
    net = frozen(net)
    old = customer_row(net, customer)
    return with_rows(net, 3, [row for row in net[3] if row != old])


def piece_text(words):
    """The text of a piece: its words and numbers with single blanks."""
    return " ".join([word if isinstance(word, str) else digits_of(word) for word in words])


def net_text(net):
    """The text of the NET."""
    hours, yards, lines, customers = frozen(net)
    pieces = [("hours", hours)]
    pieces = pieces + [("yard",) + row for row in yards] + [("line",) + row for row in lines]
    pieces = pieces + [("customer", name, yard) + own for name, yard, own in customers]
    return "; ".join([piece_text(piece) for piece in pieces])


def words_read(words, first):
    """The tuple of the words, from place first on read as numbers; None if one of them is none."""
    if not all([is_digits(word) for word in words[first:]]):
        return None
    return tuple(words[:first] + [number_from(word) for word in words[first:]])


def hours_in(piece):
    """The number of hours that the first piece tells; 0 if it tells none."""
    words = piece.split(" ")
    if len(words) != 2 or words[0] != "hours" or not is_digits(words[1]):
        return 0
    return number_from(words[1])


def entry_in(piece):
    """The pair of the part of the NET for which the piece is, from 0 for yards, and its entry; None for no such one."""
    words = piece.split(" ")
    word, rest = words[0], words[1:]
    if word == "yard" and len(rest) == 2:
        return 0, words_read(rest, 1)
    if word == "line" and len(rest) == 5:
        return 1, words_read(rest, 3)
    if word == "customer" and len(rest) >= 2:
        read = words_read(rest, 2)
        return (2, None) if read is None else (2, read[:2] + (read[2:],))
    return 0, None


def net_from(text):
    """The NET with this text."""
    pieces = text.split("; ")
    hours = hours_in(pieces[0])
    if hours == 0:
        raise BadText(0)
    parts = [[], [], []]
    for at in range(1, len(pieces)):
        part, entry = entry_in(pieces[at])
        if not goes_on(hours, parts, part, entry):
            raise BadText(at)
        parts[part].append(entry)
    if not parts[0]:
        raise BadText(len(pieces))
    return (hours,) + tuple([tuple(rows) for rows in parts])
