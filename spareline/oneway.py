"""One-way plans: each line parted into what goes one way and what goes the other, so that routes stay each way."""

from spareline.exchange import cleared_by
from spareline.flows import least_side
from spareline.nets import crossing_of, lines_in, net_of, net_weakened, net_without
from spareline.routes import check_strong, most_between


def one_way(net, k):
    check_strong(net, net, 2 * k)
    steps = []
    rest = net
    while len(rest) > 1:
        spare = spare_lines(rest, 2 * k)
        rest = net_weakened(rest, spare)
        # Where no line can be weaker some place has no more than it must, and so few that each way gets just k.
        place = [place for place in sorted(rest) if crossing_of(rest, [place]) == 2 * k][0]
        exchanges = cleared_by(rest, place, 2 * k)
        rest = net_past(rest, place, exchanges)
        steps.append((spare, exchanges))
    return plan_of(net, steps)


def is_one_way(net, arcs):
    if sorted(arcs) != sorted(net):
        return False
    for one in net:
        for other in net:
            if number_on(arcs, one, other) + number_on(arcs, other, one) != number_on(net, one, other):
                return False
    return True


def keeps_each_way(arcs, k):
    places = sorted(arcs)
    for other in places[1:]:
        if least_side(arcs, places[:1], [other])[0] < k or least_side(arcs, [other], places[:1])[0] < k:
            return False
    return True


def spare_lines(net, least):
    """What can be taken from lines, one after the other, while any two places keep so many routes."""
    spare = []
    rest = net
    for one, other, strength in lines_in(net):
        many = min(strength, most_between(rest, one, other) - least)
        if many > 0:
            spare.append((one, other, many))
            rest = net_weakened(rest, spare[-1:])
    return spare


def net_past(net, place, exchanges):
    """The net of the other places, with the exchanges done that clear the place."""
    rest = net
    for exchange in exchanges:
        rest = exchange.done(rest)
    return net_without(rest, place)


def plan_of(net, steps):
    plan = net_of(net, [])
    for spare, exchanges in reversed(steps):
        for exchange in reversed(exchanges):
            lead_through(plan, exchange)
        for one, other, many in spare:
            put_on(plan, one, other, many)
    return told_arcs(plan)


def lead_through(plan, exchange):
    """Undoes the exchange in the plan: what it led past its place goes through the place again, the same way."""
    place = exchange.place
    one = exchange.one
    other = exchange.other
    forth = exchange.many
    if one != other:
        forth = min(exchange.many, number_on(plan, one, other))
        put_on(plan, one, other, -forth)
        put_on(plan, other, one, forth - exchange.many)
    back = exchange.many - forth
    put_on(plan, one, place, forth)
    put_on(plan, place, other, forth)
    put_on(plan, other, place, back)
    put_on(plan, place, one, back)


def number_on(arcs, here, there):
    return arcs[here].get(there, 0)


def put_on(arcs, here, there, many):
    arcs[here][there] = number_on(arcs, here, there) + many


def told_arcs(arcs):
    """The same arcs without numbers of nought."""
    told = {}
    for here in sorted(arcs):
        told[here] = {}
        for there in sorted(arcs[here]):
            if arcs[here][there] > 0:
                told[here][there] = arcs[here][there]
    return told
