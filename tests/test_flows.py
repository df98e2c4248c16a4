"""What leaves a side of arcs at least: points 2 and 21."""

import itertools
import unittest

from spareline.flows import least_side
from tests.helper import (LETTERS, drawn_arcs, drawn_nets, least_sides, leaving, mixed, plain_net, sides_of, small_nets,
                          turned)

GREAT = 10 ** 12


def askings(arcs):
    """All beginnings and goals that arcs may be told."""
    for ones in sides_of(arcs):
        rest = [place for place in arcs if place not in ones]
        for others in sides_of(rest):
            if ones and others:
                yield ones, others


def tiny_arcs():
    """All arcs of two places, and many of three, each way not told, of 0, or of one of two numbers."""
    for two in itertools.product((None, 0, 1, 2), repeat=2):
        yield arcs_of("ba", two)
    for six in itertools.product((None, 0, 1, 3), repeat=6):
        yield arcs_of("bca", six)


def arcs_of(places, numbers):
    arcs = {place: {} for place in places}
    for (here, there), number in zip(itertools.permutations(places, 2), numbers):
        if number is not None:
            arcs[here][there] = number
    return arcs


class LeastSides(unittest.TestCase):
    def hold(self, arcs, ones, others):
        told = least_side(arcs, ones, others)
        self.assertIs(type(told), tuple)
        amount, side = told
        self.assertIs(type(amount), int)
        self.assertIs(type(side), list)
        asked, sides = least_sides(arcs, ones, others)
        self.assertEqual(amount, asked, (arcs, ones, others))
        self.assertIn(side, sides, (arcs, ones, others))
        for wider in sides:
            self.assertLessEqual(set(side), set(wider), (arcs, ones, others))

    def test_ordinary_arcs(self):
        arcs = {"a": {"b": 3, "c": 4}, "b": {"d": 9}, "c": {"b": 1, "d": 2}, "d": {"a": 50}}
        self.assertEqual(least_side(arcs, ["a"], ["d"]), (6, ["a", "c"]))
        self.assertEqual(least_side(arcs, ["d"], ["a"]), (50, ["d"]))
        self.assertEqual(least_side(arcs, ["b", "a"], ["d"]), (11, ["a", "b", "c"]))
        self.assertEqual(least_side(arcs, ["a"], ["d", "b"]), (6, ["a", "c"]))

    def test_a_line_goes_both_ways(self):
        net = plain_net("abc", [("a", "b", 5), ("b", "c", 2)])
        self.assertEqual(least_side(net, ["a"], ["c"]), (2, ["a", "b"]))
        self.assertEqual(least_side(net, ["c"], ["a"]), (2, ["c"]))

    def test_nothing_leaves(self):
        self.assertEqual(least_side({"a": {}, "b": {"a": 7}}, ["a"], ["b"]), (0, ["a"]))
        self.assertEqual(least_side({"a": {"b": 0}, "b": {"a": 7}}, ["a"], ["b"]), (0, ["a"]))
        self.assertEqual(least_side({"a": {"b": 0}, "b": {}, "c": {"b": 1}, "d": {"c": 2}}, ["d"], ["a"]),
                         (0, ["b", "c", "d"]))

    def test_the_least_of_several_sides(self):
        chain = {"a": {"b": 4}, "b": {"c": 4}, "c": {"d": 4}, "d": {}, "e": {"a": 1}}
        self.assertEqual(least_side(chain, ["a"], ["d"]), (4, ["a"]))
        self.assertEqual(least_side(chain, ["b", "a"], ["d"]), (4, ["a", "b"]))
        self.assertEqual(least_side(chain, ["c", "a"], ["d"]), (4, ["a", "b", "c"]))

    def test_all_small_arcs_and_all_askings(self):
        for arcs in tiny_arcs():
            for ones, others in askings(arcs):
                self.hold(arcs, ones, others)

    def test_drawn_arcs_of_two_to_six_places(self):
        for turn, arcs in enumerate(drawn_arcs(400)):
            for ones, others in mixed(askings(arcs), turn)[:12]:
                self.hold(arcs, mixed(ones, turn), mixed(others, turn))

    def test_nets_are_arcs(self):
        for turn, net in enumerate(drawn_nets(260)):
            if 2 <= len(net) <= 6:
                for ones, others in mixed(askings(net), turn)[:12]:
                    self.hold(net, mixed(ones, turn), mixed(others, turn))

    def test_nets_of_twelve_places(self):
        for net in drawn_nets(39):
            if len(net) == 12:
                places = mixed(net)
                for first, last in ((1, 1), (2, 3), (5, 4), (6, 6)):
                    self.hold(net, places[:first], places[-last:])


class Numbers(unittest.TestCase):
    def test_great_numbers_round_a_small_one(self):
        """Ways that go through the small number each time would never come to an end here."""
        arcs = {"a": {"b": GREAT, "c": GREAT}, "b": {"c": 1, "d": GREAT}, "c": {"b": 1, "d": GREAT}, "d": {}}
        self.assertEqual(least_side(arcs, ["a"], ["d"]), (2 * GREAT, ["a"]))
        self.assertEqual(least_side(arcs, ["a"], ["d", "c"]), (2 * GREAT, ["a"]))

    def test_a_long_chain_of_goals(self):
        """A goal may lie behind another one, and still as few ways as can be must do."""
        places = LETTERS[:12]
        arcs = {place: {} for place in places}
        for at, place in enumerate(places[:-1]):
            arcs[place][places[at + 1]] = GREAT - at
            arcs[places[at + 1]][place] = 1
        self.assertEqual(least_side(arcs, ["a"], list(places[1:])), (GREAT, ["a"]))
        self.assertEqual(least_side(arcs, ["a"], ["l"]), (GREAT - 10, list(places[:-1])))
        self.assertEqual(least_side(arcs, list(places[:11]), ["l"]), (GREAT - 10, list(places[:-1])))

    def test_thick_arcs_of_twelve_places(self):
        places = LETTERS[:12]
        arcs = {here: {there: GREAT - 7 * at - 11 * to for to, there in enumerate(places) if there != here}
                for at, here in enumerate(places)}
        for one, other in (("a", "l"), ("l", "a"), ("e", "f")):
            amount, side = least_side(arcs, [one], [other])
            self.assertEqual(amount, min(leaving(arcs, [one]), leaving(arcs, [p for p in places if p != other])))
            self.assertEqual(amount, leaving(arcs, side))

    def test_somewhat_beyond_the_bounds(self):
        places = LETTERS[:14]
        net = plain_net(places, [(one, other, 10 ** 14) for one, other in itertools.combinations(places, 2)])
        self.assertEqual(least_side(net, ["a"], ["n"]), (13 * 10 ** 14, ["a"]))


class Orders(unittest.TestCase):
    def test_the_order_of_lists_and_dicts_changes_nothing(self):
        for turn, arcs in enumerate(drawn_arcs(200)):
            for ones, others in mixed(askings(arcs), turn)[:3]:
                asked = least_side(arcs, ones, others)
                self.assertEqual(least_side(turned(arcs), ones[::-1], others[::-1]), asked)

    def test_both_orders_in_small_nets(self):
        for net in small_nets():
            if len(net) == 4:
                one, second, third, last = net
                asked = least_side(net, [one, second], [third, last])
                self.assertEqual(least_side(turned(net), [second, one], [last, third]), asked)


if __name__ == "__main__":
    unittest.main()
