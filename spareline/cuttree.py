"""Trees of cuts: one tree that tells for all pairs of places what goes between them."""

from spareline.flows import least_side, shortest_way
from spareline.nets import crossing_of, group_with, groups_in, line_of, net_less, net_of


def cut_tree(net):
    places = sorted(net)
    above = {}
    amounts = {}
    for place in places:
        above[place] = places[0]
        amounts[place] = 0
    for place in places[1:]:
        hang_anew(net, above, amounts, place)
    pairs = net_of(places, [(place, above[place], 1) for place in places[1:]])
    tree = []
    for place in places[1:]:
        line = line_of(place, above[place])
        tree.append((line[0], line[1], amounts[place], side_of_pair(pairs, line[0], line[1])))
    return sorted(tree)


def way_on(tree, one, other):
    return shortest_way(pairs_on(tree), [one], [other])


def least_on(tree, one, other):
    way = way_on(tree, one, other)
    passed = [cut_at(tree, here, there) for here, there in zip(way, way[1:])]
    least = passed[0]
    for cut in passed:
        if cut[2] < least[2]:
            least = cut
    if one in least[3]:
        return (least[2], list(least[3]))
    return (least[2], [place for place in places_on(tree) if place not in least[3]])


def is_cut_tree(net, tree):
    if len(tree) != max(0, len(net) - 1):
        return False
    for one, other, amount, side in tree:
        if one not in net or other not in net or one >= other:
            return False
    pairs = net_of(net, [(one, other, 1) for one, other, amount, side in tree])
    # As few pairs as these, once they join all places, leave just one way between any two.
    if len(groups_in(pairs)) > 1:
        return False
    return all([is_cut(net, pairs, cut) for cut in tree])


def held_by(net, k):
    strong = [cut[:3] for cut in cut_tree(net) if cut[2] >= k]
    return groups_in(net_of(net, strong))


def hang_anew(net, above, amounts, place):
    """One step of Gusfield's making of a tree of cuts: the place is parted from the one above it."""
    upper = above[place]
    cut = least_side(net, [place], [upper])
    for member in cut[1]:
        if member != place and above[member] == upper:
            above[member] = place
    amounts[place] = cut[0]
    # What lies above the upper place is in the side: so the place comes between these two.
    if above[upper] in cut[1]:
        above[place] = above[upper]
        amounts[place] = amounts[upper]
        above[upper] = place
        amounts[upper] = cut[0]


def is_cut(net, pairs, cut):
    if cut[3] != side_of_pair(pairs, cut[0], cut[1]) or cut[2] != crossing_of(net, cut[3]):
        return False
    return cut[2] == least_side(net, [cut[0]], [cut[1]])[0]


def side_of_pair(pairs, one, other):
    return group_with(net_less(pairs, [(one, other)]), one)


def pairs_on(tree):
    return net_of(places_on(tree), [(cut[0], cut[1], 1) for cut in tree])


def places_on(tree):
    return sorted(set([cut[0] for cut in tree] + [cut[1] for cut in tree]))


def cut_at(tree, here, there):
    pair = line_of(here, there)
    return [cut for cut in tree if cut[:2] == pair][0]
