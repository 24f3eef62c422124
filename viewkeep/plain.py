"""The plain teller: what a view is, told from the beginning."""

from viewkeep.bags import added
from viewkeep.deeds import (both, counted, either, firsts, joined, least, left_joined, less, most, not_in, once,
                            reckoned, sieved, summed)
from viewkeep.exprs import column, test
from viewkeep.views import look, views_in, with_name


def plain(V, stocks, widths):
    if V[0] == "name":
        return dict(stocks[V[1]])
    if V[0] == "rounds":
        return rounds_made(V, stocks, widths)
    inner = [plain(view, stocks, widths) for view in views_in(V)]
    if len(inner) == 1:
        return made_of_one(V, inner[0])
    if V[0] == "left":
        return left_joined(inner[0], inner[1], V[3], look(V[2], widths))
    return made_of_two(V, inner[0], inner[1])


def rounds_made(V, stocks, widths):
    now = once(plain(V[3], stocks, widths))
    wider = with_name(widths, V[1], look(V[3], widths))
    for number in range(V[2]):
        now = once(added(now, plain(V[4], with_name(stocks, V[1], now), wider)))
    return now


def made_of_one(V, stock):
    word = V[0]
    if word == "sieve":
        return sieved(stock, test(V[2]))
    if word == "cols":
        return reckoned(stock, [column(E) for E in V[2]])
    if word == "once":
        return once(stock)
    if word == "count":
        return counted(stock, V[2])
    if word == "sum":
        return summed(stock, V[2], V[3])
    if word == "least":
        return least(stock, V[2], V[3])
    if word == "most":
        return most(stock, V[2], V[3])
    return firsts(stock, V[2], V[3], V[4])


def made_of_two(V, one, other):
    word = V[0]
    if word == "join":
        return joined(one, other, V[3])
    if word == "notin":
        return not_in(one, other, V[3])
    if word == "pour":
        return added(one, other)
    if word == "both":
        return both(one, other)
    if word == "either":
        return either(one, other)
    return less(one, other)
