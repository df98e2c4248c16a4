"""What a deed makes of a state: a tuple of a net and of the lines under repair, these as a net of the same places."""

from spareline.errors import NoPlace
from spareline.nets import (check_line, check_places, groups_in, has_line, has_place, lines_in, net_joined, net_less,
                            net_of, net_without)


def first_state(net):
    return (net_joined(net, []), net_of(net, []))


def settled(state, place):
    places = list(state[0]) + [place]
    check_places(places)
    return (net_of(places, lines_in(state[0])), net_of(places, lines_in(state[1])))


def left(state, place):
    if not has_place(state[0], place):
        raise NoPlace(place)
    return (net_without(state[0], place), net_without(state[1], place))


def built(state, one, other, strength):
    # A line under repair is still a line between its two places.
    check_line(net_joined(state[0], lines_in(state[1])), one, other, strength)
    return (net_joined(state[0], [(one, other, strength)]), state[1])


def dropped(state, one, other):
    if has_line(state[0], one, other):
        return (net_less(state[0], [(one, other)]), state[1])
    return (state[0], net_less(state[1], [(one, other)]))


def rested(state, one, other):
    return line_moved(state[0], state[1], one, other)


def resumed(state, one, other):
    both = line_moved(state[1], state[0], one, other)
    return (both[1], both[0])


def line_moved(source, goal, one, other):
    """The source without the line, and the goal with it."""
    rest = net_less(source, [(one, other)])
    return (rest, net_joined(goal, [(one, other, source[one][other])]))


def groups_made(ahead, behind):
    """The groups of the net behind a change that were none ahead of it."""
    old = groups_in(ahead[0])
    return [group for group in groups_in(behind[0]) if group not in old]
