"""The desk: rows are told one at a time, and each is answered with a text."""

from spareline.build import lacking_groups, new_lines
from spareline.cuts import cut_off, lone_lines, parting_pairs
from spareline.cuttree import cut_tree, held_by
from spareline.errors import NoRow
from spareline.forests import parting_of, trees_in
from spareline.nets import groups_in
from spareline.oneway import one_way
from spareline.rings import held_by_three, rings_in
from spareline.routes import most_between, routes_between, side_between
from spareline.texts import read_net, show_net
from spareline.words import is_written_number, number_of
from spareline.works import Works


def shown(things):
    return " ".join(things) if things else "-"


def shown_places(places):
    return "+".join(places) if places else "-"


def shown_sides(sides):
    return shown([shown_places(side) for side in sides])


def shown_line(line):
    return line[0] + "-" + line[1]


def shown_lines(lines):
    return "&".join([shown_line(line) for line in lines])


def shown_numbered(line):
    """A line with the number that stands behind its two places."""
    return shown_line(line) + ":" + str(line[2])


def told_tree(net):
    return shown([shown_numbered(cut) + ":" + shown_places(cut[3]) for cut in cut_tree(net)])


def told_lone(net):
    return shown([shown_line(line) for line in lone_lines(net)])


def told_pairs(net):
    return shown([shown_lines(pair) for pair in parting_pairs(net)])


def told_rings(net):
    rings = []
    for lines, groups in rings_in(net):
        rings.append(shown_lines(lines) + ":" + ",".join([shown_places(group) for group in groups]))
    return shown(rings)


def told_three(net):
    return shown_sides(held_by_three(net))


def told_held(net, k):
    return shown_sides(held_by(net, k))


def told_fewest(net, k):
    lines = shown([shown_numbered(line) for line in new_lines(net, k)])
    return lines + " / " + shown_sides(lacking_groups(net, k))


def told_plan(net, k):
    plan = one_way(net, k)
    arcs = []
    for one in sorted(plan):
        for other in sorted(plan[one]):
            arcs.append(one + ">" + other + ":" + str(plan[one][other]))
    return shown(arcs)


def told_trees(net, most):
    trees = shown([shown_lines(tree) if tree else "." for tree in trees_in(net, most)])
    groups = parting_of(net, most)
    return trees + " / " + ("-" if groups is None else shown_sides(groups))


def told_between(net, one, other):
    most = str(most_between(net, one, other))
    routes = [str(many) + ":" + shown_places(places) for many, places in routes_between(net, one, other)]
    return most + " / " + shown(routes) + " / " + shown_places(side_between(net, one, other))


def told_off(net, place, ends):
    lines = [(one, other) for one, other in zip(ends[::2], ends[1::2])]
    return shown_places(cut_off(net, lines, place))


def told_now(net):
    return show_net(net).replace("\n", " / ") if net else "-"


def told_days(deeds):
    rows = [" ".join([str(word) for word in deed]) for deed in deeds]
    return " / ".join(rows) if rows else "-"


# What is asked of the net alone, and what is asked with a figure.
ASKED = {"tree": told_tree, "lone": told_lone, "pairs": told_pairs, "rings": told_rings, "three": told_three,
         "now": told_now}
ASKED_WITH_FIGURE = {"held": told_held, "fewest": told_fewest, "oneway": told_plan, "trees": told_trees}
# The least and the greatest figure of each.
BOUNDS = {"held": (1, 9), "fewest": (2, 5), "oneway": (1, 3), "trees": (1, 5)}
# How many words, whatever they are, stand behind the first one of other rows.
WORDS_BEHIND = {"settle": 1, "leave": 1, "drop": 2, "shut": 2, "reopen": 2, "undo": 0, "idle": 0, "days": 0,
                "between": 2}


class Desk:
    def __init__(self):
        self.works = Works({})

    def say(self, row):
        if not is_row(row):
            raise NoRow(row)
        words = row.split(" ")
        if words[0] == "begin":
            net = begun_net(row)
            self.works = Works(net)
            return shown_sides(groups_in(net))
        if words[0] == "idle":
            return shown([shown_numbered(line) for line in self.works.idle()])
        if words[0] == "days":
            return told_days(self.works.days())
        if is_asked(words[0]):
            return told_of(self.works.now(), words)
        return shown_sides(deed_done(self.works, words))


def is_row(thing):
    if not isinstance(thing, str) or "\n" in thing:
        return False
    words = thing.split(" ")
    many = len(words) - 1
    if words[0] == "begin":
        return many > 0
    if words[0] == "build":
        return many == 3 and is_written_number(words[3])
    if words[0] == "off":
        return many > 2 and many % 2 == 1
    if words[0] in BOUNDS:
        return many == 1 and is_figure(words[1], BOUNDS[words[0]])
    if words[0] in ASKED:
        return many == 0
    return words[0] in WORDS_BEHIND and many == WORDS_BEHIND[words[0]]


def is_figure(word, bounds):
    return is_written_number(word) and bounds[0] <= number_of(word) <= bounds[1]


def is_asked(word):
    return word in ASKED or word in ASKED_WITH_FIGURE or word in ("between", "off")


def begun_net(row):
    told = row[len("begin "):]
    if told == "-":
        return {}
    try:
        net = read_net(told.replace(" / ", "\n"))
    except NoRow:
        raise NoRow(row) from None
    # The net without places is told by the mark for it alone.
    if not net:
        raise NoRow(row)
    return net


def told_of(net, words):
    if words[0] == "between":
        return told_between(net, words[1], words[2])
    if words[0] == "off":
        return told_off(net, words[1], words[2:])
    if words[0] in ASKED_WITH_FIGURE:
        return ASKED_WITH_FIGURE[words[0]](net, number_of(words[1]))
    return ASKED[words[0]](net)


def deed_done(works, words):
    """The groups with which the works answers the deed of these words."""
    if words[0] == "settle":
        return works.settle(words[1])
    if words[0] == "leave":
        return works.leave(words[1])
    if words[0] == "build":
        return works.build(words[1], words[2], number_of(words[3]))
    if words[0] == "drop":
        return works.drop(words[1], words[2])
    if words[0] == "shut":
        return works.shut(words[1], words[2])
    if words[0] == "reopen":
        return works.reopen(words[1], words[2])
    return works.undo()
