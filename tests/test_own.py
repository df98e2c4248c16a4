"""Whose the things handed in and told are, and equal answers for equal nets: points 2 and 4."""

import copy
import itertools
import unittest

from spareline.build import is_fewest, lacking_groups, new_lines
from spareline.cuts import cut_off, lone_lines, parting_pairs
from spareline.cuttree import cut_tree, held_by, is_cut_tree, least_on, way_on
from spareline.exchange import Exchange, cleared_by, most_bearable
from spareline.flows import least_side
from spareline.forests import are_all_trees, parting_of, trees_in
from spareline.nets import crossing_of, groups_in, lines_in, made_net, net_joined, net_less
from spareline.oneway import is_one_way, keeps_each_way, one_way
from spareline.rings import held_by_three, rings_in
from spareline.routes import is_shown, most_between, routes_between, side_between
from spareline.texts import read_net, show_net
from tests.helper import (answers_freshly, drawn_arcs, drawn_nets, drawn_strong, mixed, refusal_of, small_nets, spoil,
                          turned)


def done(net, place, one, other, many):
    return Exchange(place, one, other, many).done(net)


def undone(net, place, one, other, many):
    return Exchange(place, one, other, many).undone(net)


def cleared(net, place, k):
    """The exchanges by which a place is cleared, as tuples, which can be compared."""
    return [(each.place, each.one, each.other, each.many) for each in cleared_by(net, place, k)]


def asked_nets():
    return itertools.chain(small_nets(), drawn_nets(39), drawn_strong(26, 12))


def asked_of(net):
    """Each call that is asked of a net, with what else it is handed."""
    lines = lines_in(net)
    pairs = [(one, other, 5) for one, other in itertools.combinations(sorted(net), 2)]
    return [
        (lines_in, []),
        (crossing_of, [sorted(net)[::2]]),
        (groups_in, []),
        (net_less, [[]]),
        (net_less, [[line[:2] for line in lines[::2]]]),
        (net_joined, [[]]),
        (net_joined, [pairs]),
        (show_net, []),
        (cut_tree, []),
        (is_cut_tree, [cut_tree(net)]),
        (held_by, [2]),
        (lone_lines, []),
        (parting_pairs, []),
        (rings_in, []),
        (held_by_three, []),
        (new_lines, [3]),
        (lacking_groups, [3]),
        (is_fewest, [3, new_lines(net, 3), lacking_groups(net, 3)]),
        (is_one_way, [net]),
        (keeps_each_way, [2]),
        (trees_in, [3]),
        (parting_of, [3]),
        (are_all_trees, [3, trees_in(net, 3), parting_of(net, 3)]),
    ] + asked_of_places(net, mixed(net)) + asked_if_not_refused(net, mixed(net))


def asked_of_places(net, places):
    if len(places) < 2:
        return []
    one, other = places[0], places[-1]
    half = len(places) // 2
    return [
        (least_side, [places[:half], places[half:]]),
        (least_side, [[one], [other]]),
        (most_between, [one, other]),
        (routes_between, [one, other]),
        (side_between, [one, other]),
        (is_shown, [one, other, routes_between(net, one, other), side_between(net, one, other)]),
        (cut_off, [[line[:2] for line in lines_in(net)[::2]], one]),
    ]


def asked_if_not_refused(net, places):
    asked = [(one_way, [k]) for k in (1, 2, 3)] + [(cleared, [place, 2]) for place in places]
    for place, one, other in itertools.product(places[:1], places[1:4], places[1:4]):
        asked.append((most_bearable, [place, one, other, 2]))
        asked.append((done, [place, one, other, 1]))
        asked.append((undone, [place, one, other, 1]))
    return [(call, others) for call, others in asked if refusal_of(call, net, *others) is None]


class TheAskersOwn(unittest.TestCase):
    def test_calls_change_nothing_and_answer_freshly(self):
        for net in asked_nets():
            for call, others in asked_of(net):
                answers_freshly(self, call, copy.deepcopy(net), *copy.deepcopy(others))
            answers_freshly(self, made_net, list(net), lines_in(net))
            answers_freshly(self, read_net, show_net(net))

    def test_arcs_and_trees_that_are_handed_in(self):
        for arcs in drawn_arcs(60):
            places = mixed(arcs)
            answers_freshly(self, least_side, copy.deepcopy(arcs), places[:1], places[1:])
            answers_freshly(self, least_side, copy.deepcopy(arcs), places[1:], places[:1])
        for net in asked_nets():
            if len(net) > 1:
                one, other = mixed(net)[:2]
                for call in (way_on, least_on):
                    answers_freshly(self, call, mixed(cut_tree(net)), one, other)
                    answers_freshly(self, call, mixed(cut_tree(net)), other, one)

    def test_exchanges_are_new_and_what_was_handed_in_is_not_in_them(self):
        for net in drawn_strong(40):
            for place in net:
                if refusal_of(cleared_by, net, place, 2) is None:
                    told = cleared(net, place, 2)
                    exchanges = cleared_by(net, place, 2)
                    self.assertEqual(len(exchanges), len({id(exchange) for exchange in exchanges}))
                    for exchange in exchanges:
                        exchange.many += 1
                        exchange.one = "spoilt"
                    spoil(exchanges)
                    self.assertEqual(cleared(net, place, 2), told)

    def test_plans_and_their_arcs(self):
        for net in drawn_strong(60):
            if refusal_of(one_way, net, 1) is None:
                plan = one_way(net, 1)
                answers_freshly(self, is_one_way, copy.deepcopy(net), copy.deepcopy(plan))
                answers_freshly(self, keeps_each_way, copy.deepcopy(plan), 1)
                self.assertEqual(is_one_way(turned(net), turned(plan)), is_one_way(net, plan))
        for arcs in drawn_arcs(60):
            answers_freshly(self, keeps_each_way, copy.deepcopy(arcs), 1)

    def test_equal_nets_have_equal_answers(self):
        for net in asked_nets():
            for call, others in asked_of(net):
                self.assertEqual(call(turned(net), *others), call(net, *others), call)


class Nets(unittest.TestCase):
    def test_told_nets_are_nets(self):
        for net in asked_nets():
            nets = (net_less, net_joined, done, undone)
            told = [call(net, *others) for call, others in asked_of(net) if call in nets]
            told += [made_net(list(net), lines_in(net)), read_net(show_net(net))]
            for other_net in told:
                self.hold_as_net(other_net)
                self.assertEqual(sorted(other_net), sorted(net))

    def hold_as_net(self, net):
        self.assertIs(type(net), dict)
        for place in net:
            self.assertIs(type(net[place]), dict)
            self.assertNotIn(place, net[place])
            for other, strength in net[place].items():
                self.assertIs(type(strength), int)
                self.assertGreaterEqual(strength, 1)
                self.assertEqual(net[other][place], strength)


if __name__ == "__main__":
    unittest.main()
