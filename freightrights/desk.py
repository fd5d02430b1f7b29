"""A desk: requests, line by line, to a board of NETS, and its answers."""

from freightrights.board import Board
from freightrights.checks import check_customers
from freightrights.covers import can_be, cover
from freightrights.days import all_in_time
from freightrights.errors import BadLine, Known, NoCustomer, NoLine, NoNet, NoNumber
from freightrights.errors import NothingDone, NoYard, OtherCustomers
from freightrights.nets import customer_names, net_text, yard_names
from freightrights.rights import by_rank
from freightrights.rows import answers_to
from freightrights.shapes import digits_of
from freightrights.texts import arrivals_text, names_text, numbers_text, text_of
from freightrights.words import request_in
from freightrights.works import losers


def yes_or_no(truth):
    """The word for a truth."""
    return "yes" if truth else "no"


def done(board, request):
    """Does a deed, or undoes one."""
    word = request[0]
    if word == "net":
        board.put(request[1], request[2], ())
    elif word == "drop":
        board.drop(request[1])
    elif word == "rename":
        board.rename(request[1], request[2])
    elif word == "undo":
        board.undo()
    else:
        board.edit(request[1], (word,) + request[2:])
    return "done"


def names_told(board, request):
    """The NAMEs on the board, those that are asked for."""
    word = request[0]
    if word == "where":
        return names_text(board.where_can(request[1]))
    if word == "above":
        return names_text(board.at_least(request[1]))
    return names_text(board.names)


def alike_told(board, request):
    """The sets of NETS with the same COVERS."""
    return text_of([names_text(row) for row in board.alike()], "; ")


def text_told(board, request):
    """The text of a NET, or of its ARRIVALS."""
    net, arrivals = board[request[1]]
    return net_text(net) if request[0] == "text" else arrivals_text(arrivals)


def cover_told(board, request):
    """A COVER."""
    net, arrivals = board[request[1]]
    return digits_of(cover(net, arrivals, request[2]))


def can_told(board, request):
    """Whether these customers can have so much, all others nothing."""
    net, arrivals = board[request[1]]
    wanted = {name: number for name, number in request[2]}
    check_customers(net, wanted)
    return yes_or_no(can_be(net, arrivals, [wanted.get(name, 0) for name in customer_names(net)]))


def rank_told(board, request):
    """What all get by a RANK."""
    net, arrivals = board[request[1]]
    return numbers_text(by_rank(net, arrivals, request[2]))


def ask_told(board, request):
    """The answers to a ROW."""
    net, arrivals = board[request[1]]
    return text_of([yes_or_no(given) for given in answers_to(net, arrivals, request[2])], " ")


def time_told(board, request):
    """Whether all are in time by a RANK, wherever goods may arrive."""
    net, _ = board[request[1]]
    return yes_or_no(all_in_time(net, yard_names(net), request[2]))


def lose_told(board, request):
    """Who loses from one NET to another one."""
    net, arrivals = board[request[1]]
    new, coming = board[request[2]]
    return names_text(losers(net, arrivals, new, coming))


# What answers a request with this word; all others are deeds.
TELLING = {
    "names": names_told,
    "where": names_told,
    "above": names_told,
    "alike": alike_told,
    "text": text_told,
    "goods": text_told,
    "cover": cover_told,
    "can": can_told,
    "rank": rank_told,
    "ask": ask_told,
    "time": time_told,
    "lose": lose_told,
}


def told(board, request):
    """The answer to a request; raises what the board, or what is asked of a NET, raises."""
    if request[0] not in TELLING:
        return done(board, request)
    answer = TELLING[request[0]]
    return answer(board, request)


def answered(board, request):
    """The answer to a request, refused with the name of the error if one is raised."""
    try:
        return told(board, request)
    except NoNet:
        word = "NoNet"
    except Known:
        word = "Known"
    except NoLine:
        word = "NoLine"
    except NoYard:
        word = "NoYard"
    except NoCustomer:
        word = "NoCustomer"
    except NoNumber:
        word = "NoNumber"
    except OtherCustomers:
        word = "OtherCustomers"
    except NothingDone:
        word = "NothingDone"
    return "refused " + word


def answers(text):
    """The list of the answers to the lines of a text; raises BadLine for the first one that is not written so."""
    lines = text.split("\n") if text != "" else []
    requests = [request_in(line) for line in lines]
    for at, request in enumerate(requests):
        if request is None:
            raise BadLine(at)
    board = Board()
    return [answered(board, request) for request in requests]
