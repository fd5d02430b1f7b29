"""Looking up names and hours in a NET, with the errors that are raised for what is none."""

from freightrights.errors import NoCustomer, NoLine, NoNumber, NoYard, OtherCustomers
from freightrights.shapes import is_hour


def row_named(rows, name):
    """The row that begins with this name; None if there is none."""
    for row in rows:
        if row[0] == name:
            return row
    return None


def yard_row(net, yard):
    """The pair of this yard; raises NoYard."""
    row = row_named(net[1], yard)
    if row is None:
        raise NoYard(yard)
    return row


def line_row(net, line):
    """The tuple of this line; raises NoLine."""
    row = row_named(net[2], line)
    if row is None:
        raise NoLine(line)
    return row


def customer_row(net, customer):
    """The triple of this customer; raises NoCustomer."""
    row = row_named(net[3], customer)
    if row is None:
        raise NoCustomer(customer)
    return row


def check_customers(net, names):
    """Raises NoCustomer for the first of names that is none."""
    for name in names:
        customer_row(net, name)


def check_yards(net, names):
    """Raises NoYard for the first of names that is none."""
    for name in names:
        yard_row(net, name)


def check_spot(net, yard, hour):
    """Raises NoYard, then NoNumber, for what is none of the NET."""
    yard_row(net, yard)
    if not is_hour(hour, net[0]):
        raise NoNumber(hour)


def check_rank(net, rank):
    """Raises OtherCustomers for what does not name all customers, each once."""
    if sorted(rank) != [row[0] for row in net[3]]:
        raise OtherCustomers()
