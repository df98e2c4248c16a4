"""The fewest new lines with which any two places keep a wished number of routes, and sides that show it."""

from spareline.exchange import cleared_by
from spareline.flows import least_side
from spareline.nets import crossing_of, lines_in, net_joined, net_of
from spareline.routes import weak_side

# The hub is a place of its own beside the net; no place of a net is called by a text without signs.
HUB = ""


def new_lines(net, k):
    wants = wants_and_sides(net, k)[0]
    # The hub's lines are parted into pairs, each of which becomes one new line; so their sum must be even.
    if sum(wants.values()) % 2 == 1:
        wants[min(wants)] += 1
    exchanges = cleared_by(hubbed(net, wants), HUB, k)
    return sorted([(exchange.one, exchange.other, exchange.many) for exchange in exchanges])


def lacking_groups(net, k):
    return sorted(wants_and_sides(net, k)[1])


def is_fewest(net, k, lines, groups):
    if not are_new_lines(net, lines) or not are_parted(net, groups):
        return False
    if weak_side(net_joined(net, lines), net, k) is not None:
        return False
    twice = 2 * sum([many for one, other, many in lines])
    return sum([lack_of(net, side, k) for side in groups]) in (twice, twice - 1)


def wants_and_sides(net, k):
    """How strong the hub's lines must be, place after place as weak as can be, and sides that let none be weaker."""
    wants = {}
    for place in net:
        wants[place] = k
    sides = []
    for place in sorted(net):
        joined = hubbed(net, wants)
        cuts = [least_side(joined, [place], [HUB, far]) for far in sorted(net) if far != place]
        wants[place] -= min([k] + [cut[0] - k for cut in cuts])
        if wants[place] > 0:
            sides = with_side(sides, min(cuts)[1])
    return (wants, sides)


def with_side(sides, side):
    """The sides with one more, by which a place was stopped: with the hub's lines its crossing is just k."""
    # It stays at k from now on, so it lacks just what its places want. No side holds a place that was asked later:
    # that one still wanted k by itself. And where the new side and an earlier one had a place in common and each a
    # place of its own, both without the common ones would be at k, too; but the new one is the least side at k with
    # its place. So it holds each earlier one that it meets.
    return [other for other in sides if other[0] not in side] + [side]


def hubbed(net, wants):
    """The net with the hub, which has a line to each place that wants one."""
    wished = [(HUB, place, wants[place]) for place in wants if wants[place] > 0]
    return net_of([HUB] + list(net), lines_in(net) + wished)


def are_new_lines(net, lines):
    for one, other, many in lines:
        if one not in net or other not in net or one >= other or many < 1:
            return False
    pairs = [line[:2] for line in lines]
    return pairs == sorted(set(pairs))


def are_parted(net, groups):
    places = []
    for group in groups:
        if not 0 < len(group) < len(net):
            return False
        places.extend(group)
    return len(set(places)) == len(places)


def lack_of(net, side, k):
    return max(0, k - crossing_of(net, side))
