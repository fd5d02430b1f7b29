"""The book of goods of a PLAN: what is there, is left, lies over at each spot."""


def come_and_go(net, arrivals, plan):
    """Two dicts by spot: what arrives or comes on lines, and what leaves or is taken."""
    moves, takes = plan
    lines = {row[0]: row for row in net[2]}
    yards = {row[0]: row[1] for row in net[3]}
    come = {(yard, hour): amount for yard, hour, amount in arrivals}
    go = {}
    for line, hour, amount in moves:
        _, start, goal, late, _ = lines[line]
        come[(goal, hour + late)] = come.get((goal, hour + late), 0) + amount
        go[(start, hour)] = go.get((start, hour), 0) + amount
    for customer, hour, amount in takes:
        spot = (yards[customer], hour)
        go[spot] = go.get(spot, 0) + amount
    return come, go


def book_of(net, arrivals, plan):
    """Two dicts by spot: what is there, and what is left there."""
    come, go = come_and_go(net, arrivals, plan)
    there_at = {}
    left_at = {}
    for yard, room in net[1]:
        over = 0
        for hour in range(net[0]):
            spot = (yard, hour)
            there_at[spot] = come.get(spot, 0) + over
            left_at[spot] = there_at[spot] - go.get(spot, 0)
            over = min(room, left_at[spot])
    return there_at, left_at


def lying_of(net, left_at):
    """The ascending tuple of what lies over, by what is left at each spot."""
    rows = [(yard, hour, min(room, left_at[(yard, hour)])) for yard, room in net[1] for hour in range(net[0] - 1)]
    return tuple([row for row in rows if row[2] > 0])


def spare_of(net, left_at):
    """By spot, how much can be taken away there, by what is left at each spot.

    What is given back can go without any harm; what lies over only as far as
    it can go in the next hour, too.
    """
    spare_at = {}
    for yard, room in net[1]:
        last = (yard, net[0] - 1)
        spare_at[last] = left_at[last]
        for hour in range(net[0] - 2, -1, -1):
            left_here = left_at[(yard, hour)]
            spare_at[(yard, hour)] = min(left_here, max(0, left_here - room) + spare_at[(yard, hour + 1)])
    return spare_at
