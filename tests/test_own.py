"""Whose the things handed in and told are, and equal answers for equal nets: points 2 and 4."""

import copy
import itertools
import unittest

from spareline.nets import crossing_of, groups_in, lines_in, made_net, net_joined, net_less
from spareline.texts import read_net, show_net
from tests.helper import answers_freshly, drawn_nets, small_nets, turned


def asked_of(net):
    """Each call that is asked of a net, with what else it is handed."""
    lines = lines_in(net)
    pairs = [(one, other, 5) for one, other in itertools.combinations(sorted(net), 2)]
    return [
        (lines_in, []),
        (crossing_of, [sorted(net)[::2]]),
        (groups_in, []),
        (net_less, [[]]),
        (net_less, [[line[:2] for line in lines[::2]]]),
        (net_joined, [[]]),
        (net_joined, [pairs]),
        (show_net, []),
    ]


class TheAskersOwn(unittest.TestCase):
    def test_calls_change_nothing_and_answer_freshly(self):
        for net in itertools.chain(small_nets(), drawn_nets(39)):
            for call, others in asked_of(net):
                answers_freshly(self, call, copy.deepcopy(net), *copy.deepcopy(others))
            answers_freshly(self, made_net, list(net), lines_in(net))
            answers_freshly(self, read_net, show_net(net))

    def test_equal_nets_have_equal_answers(self):
        for net in itertools.chain(small_nets(), drawn_nets(39)):
            for call, others in asked_of(net):
                self.assertEqual(call(turned(net), *others), call(net, *others), call)


class Nets(unittest.TestCase):
    def test_told_nets_are_nets(self):
        for net in itertools.chain(small_nets(), drawn_nets(39)):
            told = [call(net, *others) for call, others in asked_of(net) if call in (net_less, net_joined)]
            told += [made_net(list(net), lines_in(net)), read_net(show_net(net))]
            for other_net in told:
                self.hold_as_net(other_net)
                self.assertEqual(sorted(other_net), sorted(net))

    def hold_as_net(self, net):
        self.assertIs(type(net), dict)
        for place in net:
            self.assertIs(type(net[place]), dict)
            self.assertNotIn(place, net[place])
            for other, strength in net[place].items():
                self.assertIs(type(strength), int)
                self.assertGreaterEqual(strength, 1)
                self.assertEqual(net[other][place], strength)


if __name__ == "__main__":
    unittest.main()
