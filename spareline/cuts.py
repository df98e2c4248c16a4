"""Lines that cut alone, and two by two; strengths count nothing here."""

from spareline.errors import NoPlace
from spareline.flows import reached_from
from spareline.nets import group_with, groups_in, has_place, line_of, lines_in, net_less


def lone_lines(net):
    marks = marks_on(net)
    return [line for line in sorted(marks) if marks[line] == 0]


def cut_off(net, lines, place):
    if not has_place(net, place):
        raise NoPlace(place)
    still = group_with(net_less(net, lines), place)
    return [member for member in group_with(net, place) if member not in still]


def parting_pairs(net):
    marks = marks_on(net)
    lines = [line for line in sorted(marks) if marks[line] != 0]
    pairs = []
    for at, line in enumerate(lines):
        for other in lines[at + 1:]:
            if marks[line] == marks[other]:
                pairs.append((line, other))
    return pairs


def marks_on(net):
    """Each line with a number whose bits tell which rounds pass it."""
    # Each line beside the forest closes one round, and all rounds are put together from these. Lines part a group
    # where every round passes them an even number of times: one line that no round passes, or two lines that
    # are always passed together.
    ahead = forest_in(net)
    lines = [line[:2] for line in lines_in(net)]
    marks = {}
    for line in lines:
        marks[line] = 0
    bit = 1
    for one, other in lines:
        if ahead[one] != other and ahead[other] != one:
            marks[(one, other)] = bit
            mark_up(marks, ahead, one, bit)
            mark_up(marks, ahead, other, bit)
            bit += bit
    return marks


def forest_in(net):
    """Each place with the place ahead of it on the way from the first place of its group, None for that one."""
    forest = {}
    for group in groups_in(net):
        forest.update(reached_from(net, group[:1]))
    return forest


def mark_up(marks, ahead, place, bit):
    # Turning the bit round unmarks again what both ends of the closing line have above them.
    here = place
    while ahead[here] is not None:
        line = line_of(here, ahead[here])
        marks[line] = marks[line] ^ bit
        here = ahead[here]
