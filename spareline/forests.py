"""Trees that share no strand of a line, as many as there can be, and a parting of the places that shows it."""

from spareline.flows import shortest_way
from spareline.nets import crossing_of, groups_in, has_line, line_of, lines_in, net_joined, net_less, net_of
from spareline.routes import keeps_strengths


def trees_in(net, most):
    return [[line[:2] for line in lines_in(tree)] for tree in packed(net, most)[0]]


def parting_of(net, most):
    return packed(net, most)[1]


def are_all_trees(net, most, trees, groups):
    if not all([is_tree(net, tree) for tree in trees]) or not share_no_strand(net, trees):
        return False
    if groups is None:
        return len(trees) == most
    return len(trees) < most and is_parting(net, groups) and lacks_lines(net, groups, len(trees) + 1)


def packed(net, most):
    """The trees, as nets of their lines, and the parting beside them."""
    trees = []
    while len(trees) < most:
        forests = trees + [net_of(net, [])]
        found = searched(net, forests)
        while found[1] is not None:
            forests = moved(forests, found[1])
            found = searched(net, forests)
        if sum([len(lines_in(forest)) for forest in forests]) < len(forests) * (len(net) - 1):
            return (trees, tight_groups(net, found[0]))
        trees = forests
    return (trees, None)


def searched(net, forests):
    """Strands (line, forest) reached from those in no forest, and a move (line, from, to), None where all is full."""
    reached = {}
    for line in lines_left(net, forests):
        reached[(line, None)] = True
    waiting = list(reached)
    # A strand that would close a round in a forest reaches those of the round: were one of them elsewhere, it could go
    # in. The nearest that can go elsewhere is moved; so the way to such a one is shorter each time, until a strand
    # from no forest goes in.
    while waiting:
        strand = waiting.pop(0)
        line = strand[0]
        for at, forest in enumerate(forests):
            way = shortest_way(forest, [line[0]], [line[1]])
            if not way:
                return (reached, (line, strand[1], at))
            for here, there in zip(way, way[1:]):
                blocking = (line_of(here, there), at)
                if blocking not in reached:
                    reached[blocking] = True
                    waiting.append(blocking)
    return (reached, None)


def lines_left(net, forests):
    """The lines of which a strand is in no forest."""
    left = []
    for one, other, strength in lines_in(net):
        if len([forest for forest in forests if other in forest[one]]) < strength:
            left.append((one, other))
    return left


def moved(forests, move):
    """The forests with the line of the move put into one of them, and out of the one it was in, if any."""
    line = move[0]
    result = list(forests)
    result[move[2]] = net_joined(result[move[2]], [(line[0], line[1], 1)])
    if move[1] is not None:
        result[move[1]] = net_less(result[move[1]], [line])
    return result


def tight_groups(net, reached):
    """The groups that the reached strands make."""
    # No reached strand can go into any forest, so each forest joins all places of such a group by reached strands.
    # Between the groups, then, every strand is in a forest; and as some forest is no tree, they are fewer there than
    # the groups less one for each forest.
    return groups_in(net_of(net, [(line[0], line[1], 1) for line, at in reached]))


def is_tree(net, lines):
    if lines != sorted(set(lines)) or len(lines) != max(0, len(net) - 1):
        return False
    if not all([one < other and has_line(net, one, other) for one, other in lines]):
        return False
    # As few lines as these, once they join all places, close no ring.
    return len(groups_in(net_of(net, [(one, other, 1) for one, other in lines]))) <= 1


def share_no_strand(net, trees):
    lines = []
    for tree in trees:
        lines.extend(tree)
    # A line is the route from its one place to its other one.
    return keeps_strengths(net, [(1, line) for line in lines])


def is_parting(net, groups):
    places = []
    for group in groups:
        places.extend(group)
    return len(groups) > 1 and [] not in groups and sorted(places) == sorted(net)


def lacks_lines(net, groups, many):
    """Whether the lines between the groups are too few for so many trees."""
    # Each line between crosses the two groups in which its places are.
    between = sum([crossing_of(net, group) for group in groups]) // 2
    return between < many * (len(groups) - 1)
