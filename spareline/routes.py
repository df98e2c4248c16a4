"""Routes and the least side between two places, and whether such a paper is right."""

from spareline.errors import TooWeak
from spareline.flows import least_along, least_side, pushed_through, shortest_way
from spareline.nets import check_two, crossing_of, has_line, line_of


def most_between(net, one, other):
    check_two(net, one, other)
    return least_side(net, [one], [other])[0]


def routes_between(net, one, other):
    check_two(net, one, other)
    pushed = pushed_through(net, [one], [other])
    flow = flow_on(net, pushed[1])
    lacking = pushed[0]
    routes = []
    # Each route uses up what goes over one line at least, so there are no more routes than lines.
    while lacking > 0:
        way = shortest_way(flow, [one], [other])
        many = least_along(flow, way)
        for here, there in zip(way, way[1:]):
            flow[here][there] -= many
        routes.append((many, way))
        lacking -= many
    return routes


def side_between(net, one, other):
    check_two(net, one, other)
    return least_side(net, [one], [other])[1]


def is_shown(net, one, other, routes, side):
    check_two(net, one, other)
    if not all([is_route(net, one, other, many, places) for many, places in routes]):
        return False
    if not keeps_strengths(net, routes) or not parts_two(net, one, other, side):
        return False
    return sum([many for many, places in routes]) == crossing_of(net, side)


def check_strong(net, places, k):
    side = weak_side(net, places, k)
    if side is not None:
        raise TooWeak(side)


def weak_side(net, places, k):
    """The side told for the first two of the places that have less than k routes; None where all have k."""
    # Two places that have k routes to a third one have k routes themselves. So where any two lack some, the first
    # place and another one do.
    rising = sorted(places)
    for other in rising[1:]:
        cut = least_side(net, rising[:1], [other])
        if cut[0] < k:
            return cut[1]
    return None


def flow_on(net, room):
    """Arcs of what goes over each line, its two ways set off against one another."""
    flow = {}
    for here in net:
        flow[here] = {}
        for there in net[here]:
            flow[here][there] = max(0, net[here][there] - room[here][there])
    return flow


def is_route(net, one, other, many, places):
    if many < 1 or places[:1] != [one] or places[-1:] != [other]:
        return False
    if len(set(places)) != len(places):
        return False
    return all([has_line(net, here, there) for here, there in zip(places, places[1:])])


def keeps_strengths(net, routes):
    used = {}
    for many, places in routes:
        for here, there in zip(places, places[1:]):
            line = line_of(here, there)
            used[line] = used.get(line, 0) + many
    return all([used[line] <= net[line[0]][line[1]] for line in used])


def parts_two(net, one, other, side):
    if side != sorted(set(side)) or not all([place in net for place in side]):
        return False
    return one in side and other not in side
