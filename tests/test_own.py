"""Whose the things handed in and told are, and equal answers for equal nets: points 2 and 4."""

import copy
import itertools
import unittest

from spareline.cuts import cut_off, lone_lines, parting_pairs
from spareline.cuttree import cut_tree, held_by, is_cut_tree, least_on, way_on
from spareline.flows import least_side
from spareline.nets import crossing_of, groups_in, lines_in, made_net, net_joined, net_less
from spareline.routes import is_shown, most_between, routes_between, side_between
from spareline.texts import read_net, show_net
from tests.helper import answers_freshly, drawn_arcs, drawn_nets, mixed, small_nets, turned


def asked_of(net):
    """Each call that is asked of a net, with what else it is handed."""
    lines = lines_in(net)
    pairs = [(one, other, 5) for one, other in itertools.combinations(sorted(net), 2)]
    return [
        (lines_in, []),
        (crossing_of, [sorted(net)[::2]]),
        (groups_in, []),
        (net_less, [[]]),
        (net_less, [[line[:2] for line in lines[::2]]]),
        (net_joined, [[]]),
        (net_joined, [pairs]),
        (show_net, []),
        (cut_tree, []),
        (is_cut_tree, [cut_tree(net)]),
        (held_by, [2]),
        (lone_lines, []),
        (parting_pairs, []),
    ] + asked_of_places(net, mixed(net))


def asked_of_places(net, places):
    if len(places) < 2:
        return []
    one, other = places[0], places[-1]
    half = len(places) // 2
    return [
        (least_side, [places[:half], places[half:]]),
        (least_side, [[one], [other]]),
        (most_between, [one, other]),
        (routes_between, [one, other]),
        (side_between, [one, other]),
        (is_shown, [one, other, routes_between(net, one, other), side_between(net, one, other)]),
        (cut_off, [[line[:2] for line in lines_in(net)[::2]], one]),
    ]


class TheAskersOwn(unittest.TestCase):
    def test_calls_change_nothing_and_answer_freshly(self):
        for net in itertools.chain(small_nets(), drawn_nets(39)):
            for call, others in asked_of(net):
                answers_freshly(self, call, copy.deepcopy(net), *copy.deepcopy(others))
            answers_freshly(self, made_net, list(net), lines_in(net))
            answers_freshly(self, read_net, show_net(net))

    def test_arcs_and_trees_that_are_handed_in(self):
        for arcs in drawn_arcs(60):
            places = mixed(arcs)
            answers_freshly(self, least_side, copy.deepcopy(arcs), places[:1], places[1:])
            answers_freshly(self, least_side, copy.deepcopy(arcs), places[1:], places[:1])
        for net in itertools.chain(small_nets(), drawn_nets(39)):
            if len(net) > 1:
                one, other = mixed(net)[:2]
                for call in (way_on, least_on):
                    answers_freshly(self, call, mixed(cut_tree(net)), one, other)
                    answers_freshly(self, call, mixed(cut_tree(net)), other, one)

    def test_equal_nets_have_equal_answers(self):
        for net in itertools.chain(small_nets(), drawn_nets(39)):
            for call, others in asked_of(net):
                self.assertEqual(call(turned(net), *others), call(net, *others), call)


class Nets(unittest.TestCase):
    def test_told_nets_are_nets(self):
        for net in itertools.chain(small_nets(), drawn_nets(39)):
            told = [call(net, *others) for call, others in asked_of(net) if call in (net_less, net_joined)]
            told += [made_net(list(net), lines_in(net)), read_net(show_net(net))]
            for other_net in told:
                self.hold_as_net(other_net)
                self.assertEqual(sorted(other_net), sorted(net))

    def hold_as_net(self, net):
        self.assertIs(type(net), dict)
        for place in net:
            self.assertIs(type(net[place]), dict)
            self.assertNotIn(place, net[place])
            for other, strength in net[place].items():
                self.assertIs(type(strength), int)
                self.assertGreaterEqual(strength, 1)
                self.assertEqual(net[other][place], strength)


if __name__ == "__main__":
    unittest.main()
