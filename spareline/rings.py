"""Rings of lines that cut two by two, and groups that no two lines part; strengths count nothing here."""

from spareline.cuts import marks_on
from spareline.cuttree import held_by
from spareline.nets import group_with, lines_in, net_less, net_of


def rings_in(net):
    marks = marks_on(net)
    alike = {}
    for line in sorted(marks):
        # Nought marks the lone lines, which stand in no pair.
        if marks[line] != 0:
            alike.setdefault(marks[line], []).append(line)
    return [ring_round(net, alike[mark]) for mark in alike if len(alike[mark]) > 1]


def held_by_three(net):
    # Three routes without a common line are three routes where each line has the strength one.
    return held_by(net_of(net, [(line[0], line[1], 1) for line in lines_in(net)]), 3)


def ring_round(net, lines):
    """The ring of these rising lines, told the way round that is asked for."""
    apart = net_less(net, lines)
    both = [walked_round(apart, lines, end) for end in lines[0]]
    # The second line of one way is the last one of the other; of two lines it is the same one, so the groups decide.
    return min(both, key=lambda ring: (ring[0][1], ring[1][0]))


def walked_round(apart, lines, end):
    """The lines and the groups in their order round, the first line left by this end of it."""
    passed = [lines[0]]
    groups = [group_with(apart, end)]
    while len(passed) < len(lines):
        line = [line for line in lines if line not in passed and touches(line, groups[-1])][0]
        passed.append(line)
        groups.append(group_with(apart, far_end(line, groups[-1])))
    return (passed, groups)


def touches(line, group):
    return line[0] in group or line[1] in group


def far_end(line, group):
    return line[1] if line[0] in group else line[0]
