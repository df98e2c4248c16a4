"""Nets: how they are made, what is in them, and nets with lines taken out or joined."""

from spareline.errors import NoLine, NoPlace, NoStrength, OldLine, OldPlace, SamePlace, TooMany
from spareline.words import is_name, is_strength

MOST_PLACES = 12


def made_net(places, lines):
    check_places(places)
    net = net_of(places, [])
    for one, other, strength in lines:
        check_line(net, one, other, strength)
        join_line(net, one, other, strength)
    return net


def lines_in(net):
    lines = []
    for one in sorted(net):
        for other in sorted(net[one]):
            if one < other:
                lines.append((one, other, net[one][other]))
    return lines


def crossing_of(net, side):
    return sum([strength for one, other, strength in lines_in(net) if (one in side) != (other in side)])


def groups_in(net):
    groups = []
    grouped = {}
    for place in sorted(net):
        if place not in grouped:
            group = group_with(net, place)
            groups.append(group)
            for member in group:
                grouped[member] = True
    return groups


def net_less(net, lines):
    # Each line is asked for in the net as it was: one that is told twice is there both times.
    out = {}
    for one, other in lines:
        if not has_line(net, one, other):
            raise NoLine(one, other)
        out[(one, other)] = True
        out[(other, one)] = True
    return net_of(net, [line for line in lines_in(net) if line[:2] not in out])


def net_joined(net, lines):
    return net_of(net, lines_in(net) + list(lines))


def net_weakened(net, lines):
    """The net with so much taken from its lines; a line from which all is taken is there no more."""
    rest = {}
    for one, other, strength in lines_in(net):
        rest[(one, other)] = strength
    for one, other, many in lines:
        rest[line_of(one, other)] -= many
    return net_of(net, [(line[0], line[1], rest[line]) for line in rest if rest[line] > 0])


def net_without(net, place):
    """The net without the place and its lines."""
    others = [other for other in net if other != place]
    return net_of(others, [line for line in lines_in(net) if place not in line[:2]])


def net_of(places, lines):
    net = {}
    for place in sorted(places):
        net[place] = {}
    for one, other, many in lines:
        join_line(net, one, other, many)
    return net


def join_line(net, one, other, many):
    strength = net[one].get(other, 0) + many
    net[one][other] = strength
    net[other][one] = strength


def check_places(places):
    seen = {}
    for place in places:
        if not is_name(place):
            raise NoPlace(place)
        if place in seen:
            raise OldPlace(place)
        seen[place] = True
    if len(places) > MOST_PLACES:
        raise TooMany()


def check_two(net, one, other):
    for place in (one, other):
        if not has_place(net, place):
            raise NoPlace(place)
    if one == other:
        raise SamePlace(one)


def check_line(net, one, other, strength):
    check_two(net, one, other)
    if other in net[one]:
        raise OldLine(one, other)
    if not is_strength(strength):
        raise NoStrength(strength)


def has_place(net, thing):
    # What is no text may have no hash, so a dict is not asked for it.
    return isinstance(thing, str) and thing in net


def has_line(net, one, other):
    return has_place(net, one) and has_place(net[one], other)


def line_of(one, other):
    return (min(one, other), max(one, other))


def group_with(net, place):
    reached = {place: True}
    waiting = [place]
    while waiting:
        here = waiting.pop()
        for neighbour in net[here]:
            if neighbour not in reached:
                reached[neighbour] = True
                waiting.append(neighbour)
    return sorted(reached)
