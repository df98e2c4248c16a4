"""Rings of lines that cut two by two, and groups held by three: points 44 and 45."""

import itertools
import random
import unittest

from spareline.cuts import lone_lines, parting_pairs
from spareline.rings import held_by_three, rings_in
from tests.helper import (LETTERS, TOWN, TWELVE, all_between, bare_lines, drawn_nets, groups_by_joining, mixed,
                          nets_for_cuts, pairs_by_counting, plain_net, restrengthened, ring_of, round_nets, small_nets,
                          turned, without)


def thick(places):
    return [pair + (1,) for pair in itertools.combinations(places, 2)]


def beads_round(beads, draw):
    """Thick groups that lines join round, each line between drawn places of two groups that follow one another."""
    lines = [line for bead in beads for line in thick(bead)]
    free = [list(bead) for bead in beads]
    for bead, following in zip(free, free[1:] + free[:1]):
        line = (draw.choice(bead), draw.choice(following), 1)
        lines.append(line)
        # Two groups have two lines between them, and two places have one at most: so one end is not taken again.
        if len(beads) == 2:
            bead.remove(line[0])
    return lines


def beaded_nets(many):
    """Rings of thick and thin groups, some with a second such ring beside the first one or hung to it."""
    draw = random.Random(44)
    for turn in range(many):
        places = draw.sample(list(LETTERS), 12)
        sizes = draw.choice(((4, 4), (4, 5), (4, 1, 1), (1, 4, 4), (4, 4, 4), (3, 2, 1, 4), (5, 1, 2), (2, 2, 2, 2, 2),
                             (6, 6), (1, 1, 1, 1, 8)))
        beads = [places[sum(sizes[:at]):sum(sizes[:at + 1])] for at in range(len(sizes))]
        lines = beads_round(beads, draw)
        rest = places[sum(sizes):]
        if len(rest) > 2:
            lines += ring_of(rest)
        if len(rest) > 3 and turn % 2:
            lines.append((rest[0], places[0], 1))
        yield plain_net(places, lines)


def held_by_walks(net, one, other):
    """Whether the two are in one group, whatever line and whatever two lines are out."""
    lines = bare_lines(net)
    outs = [[]] + [[line] for line in lines] + [list(pair) for pair in itertools.combinations(lines, 2)]
    return all(any(one in group and other in group for group in groups_by_joining(without(net, out))) for out in outs)


def threes_by_walks(net):
    groups = []
    for place in sorted(net):
        for group in groups:
            if held_by_walks(net, group[0], place):
                group.append(place)
                break
        else:
            groups.append([place])
    return groups


class RingsTold(unittest.TestCase):
    def test_an_ordinary_net(self):
        four = ([("a", "b"), ("a", "d"), ("c", "d"), ("b", "c")], [["a"], ["d", "e", "f", "g"], ["c"], ["b"]])
        three = ([("e", "f"), ("e", "g"), ("f", "g")], [["a", "b", "c", "d", "e"], ["g"], ["f"]])
        self.assertEqual(rings_in(TOWN), [four, three])

    def test_nets_without_rings(self):
        for net in ({}, {"a": {}}, {"b": {}, "a": {}}, plain_net("ab", [("a", "b", 9)]),
                    plain_net("abc", [("a", "b", 1), ("b", "c", 1)]), plain_net("abcd", thick("abcd")),
                    plain_net(TWELVE, thick(TWELVE))):
            self.assertEqual(rings_in(net), [])

    def test_a_ring_of_two_lines(self):
        net = plain_net("abcdefgh", thick("abcd") + thick("efgh") + [("a", "f", 1), ("e", "b", 1)])
        self.assertEqual(rings_in(net), [([("a", "f"), ("b", "e")], [list("abcd"), list("efgh")])])

    def test_the_first_of_two_groups_has_the_lesser_first_place(self):
        net = plain_net("abcdwxyz", thick("awxy") + thick("bcdz") + [("b", "x", 1), ("y", "c", 1)])
        self.assertEqual(rings_in(net), [([("b", "x"), ("c", "y")], [list("awxy"), list("bcdz")])])
        net = plain_net("abcdwxyz", thick("awxy") + thick("bcdz") + [("a", "c", 1), ("y", "b", 1)])
        self.assertEqual(rings_in(net), [([("a", "c"), ("b", "y")], [list("awxy"), list("bcdz")])])

    def test_two_lines_with_a_common_end(self):
        net = plain_net("abcde", thick("bcde") + [("a", "c", 5), ("d", "a", 2)])
        self.assertEqual(rings_in(net), [([("a", "c"), ("a", "d")], [["a"], list("bcde")])])

    def test_both_ways_round_begin_with_the_least_line(self):
        net = plain_net("abcde", ring_of(list("acbed")))
        lines = [("a", "c"), ("a", "d"), ("d", "e"), ("b", "e"), ("b", "c")]
        self.assertEqual(rings_in(net), [(lines, [["a"], ["d"], ["e"], ["b"], ["c"]])])
        net = plain_net("abcde", ring_of(list("abced")))
        lines = [("a", "b"), ("a", "d"), ("d", "e"), ("c", "e"), ("b", "c")]
        self.assertEqual(rings_in(net), [(lines, [["a"], ["d"], ["e"], ["c"], ["b"]])])
        net = plain_net("abc", ring_of(list("cab")))
        self.assertEqual(rings_in(net), [([("a", "b"), ("a", "c"), ("b", "c")], [["a"], ["c"], ["b"]])])

    def test_the_second_line_may_lie_behind_the_greater_end(self):
        net = plain_net("abcdwxyz", thick("abxy") + [("c", "x", 1), ("y", "d", 1), ("d", "c", 1)])
        lines = [("c", "d"), ("c", "x"), ("d", "y")]
        self.assertEqual(rings_in(net), [(lines, [["c"], ["a", "b", "x", "y"], ["d"]])])
        net = plain_net("abcwxy", thick("abxy") + [("b", "w", 1), ("w", "c", 1), ("c", "y", 1)])
        lines = [("b", "w"), ("c", "w"), ("c", "y")]
        self.assertEqual(rings_in(net), [(lines, [["w"], ["c"], ["a", "b", "x", "y"]])])

    def test_rings_are_told_by_their_first_lines(self):
        net = plain_net("abcdefgh", ring_of(list("dhg")) + ring_of(list("bcf")) + [("a", "e", 1)])
        self.assertEqual([ring[0][0] for ring in rings_in(net)], [("b", "c"), ("d", "g")])


class RingsHeld(unittest.TestCase):
    def hold(self, net):
        rings = rings_in(net)
        self.assertIs(type(rings), list)
        self.assertEqual([ring[0][0] for ring in rings], sorted(ring[0][0] for ring in rings))
        for ring in rings:
            self.hold_ring(net, ring)
        lines = [line for ring in rings for line in ring[0]]
        self.assertEqual(len(lines), len(set(lines)))
        pairs = [pair for ring in rings for pair in itertools.combinations(sorted(ring[0]), 2)]
        self.assertEqual(sorted(pairs), pairs_by_counting(net), net)
        self.assertEqual(sorted(pairs), parting_pairs(net))

    def hold_ring(self, net, ring):
        self.assertIs(type(ring), tuple)
        lines, groups = ring
        self.assertEqual((type(lines), type(groups)), (list, list))
        self.assertTrue(set(lines) <= set(bare_lines(net)))
        self.assertGreaterEqual(len(lines), 2)
        self.assertEqual(lines[0], min(lines))
        if len(lines) == 2:
            self.assertLess(groups[0][0], groups[1][0])
        else:
            self.assertLess(lines[1], lines[-1])
        new = [group for group in groups_by_joining(without(net, lines)) if group not in groups_by_joining(net)]
        self.assertEqual(sorted(groups), new, (net, ring))
        self.assertEqual(len(groups), len(lines))
        for group, line, following in zip(groups, lines, lines[1:] + lines[:1]):
            self.assertEqual([len(set(line) & set(group)), len(set(following) & set(group))], [1, 1], (net, ring))

    def test_all_pairs_are_those_of_the_rings(self):
        for net in nets_for_cuts():
            self.hold(net)

    def test_rings_of_thick_groups(self):
        sizes = set()
        for net in beaded_nets(120):
            self.hold(net)
            sizes |= {len(ring[0]) for ring in rings_in(net)}
        self.assertTrue(sizes >= {2, 3, 4, 5}, sizes)

    def test_rings_of_many_lines(self):
        for many in range(3, 13):
            net = plain_net(TWELVE, ring_of(mixed(TWELVE[:many], many)))
            self.hold(net)
            self.assertEqual([len(ring[0]) for ring in rings_in(net)], [many])

    def test_strengths_and_orders_count_nothing(self):
        for net in itertools.chain(nets_for_cuts(), beaded_nets(40)):
            self.assertEqual(rings_in(restrengthened(net)), rings_in(net))
            self.assertEqual(rings_in(turned(net)), rings_in(net))


class HeldByThree(unittest.TestCase):
    def hold(self, net):
        told = held_by_three(net)
        self.assertIs(type(told), list)
        self.assertEqual(told, threes_by_walks(net), net)

    def test_ordinary_nets(self):
        self.assertEqual(held_by_three(TOWN), [[place] for place in "abcdefghijk"])
        net = plain_net("abcdefghi", thick("bdfh") + thick("aceg") + [("a", "b", 1), ("c", "d", 1)])
        self.assertEqual(held_by_three(net), [list("aceg"), list("bdfh"), ["i"]])
        joined = plain_net("abcdefgh", thick("bdfh") + thick("aceg") + [("a", "b", 1), ("c", "d", 1), ("c", "b", 1)])
        self.assertEqual(held_by_three(joined), [list("abcdefgh")])

    def test_none_and_one_place_and_places_without_lines(self):
        self.assertEqual(held_by_three({}), [])
        self.assertEqual(held_by_three({"a": {}}), [["a"]])
        self.assertEqual(held_by_three({"b": {}, "c": {}, "a": {}}), [["a"], ["b"], ["c"]])

    def test_a_line_is_one_line_whatever_its_strength(self):
        self.assertEqual(held_by_three(plain_net("ab", [("a", "b", 10 ** 9)])), [["a"], ["b"]])
        strong = plain_net("abc", [("a", "b", 9), ("b", "c", 9), ("a", "c", 9)])
        self.assertEqual(held_by_three(strong), [["a"], ["b"], ["c"]])

    def test_places_held_through_others_that_are_not(self):
        net = plain_net("abcde", [(end, middle, 1) for end in "ae" for middle in "bcd"])
        self.assertEqual(held_by_three(net), [["a", "e"], ["b"], ["c"], ["d"]])

    def test_walks_with_one_and_two_lines_out(self):
        for net in itertools.chain(small_nets(), round_nets(), drawn_nets(13), beaded_nets(12)):
            self.hold(net)

    def test_three_routes_where_all_strengths_are_one(self):
        for net in itertools.chain(nets_for_cuts(), beaded_nets(40)):
            between = all_between(plain_net(net, [line + (1,) for line in bare_lines(net)]))
            told = held_by_three(net)
            self.assertEqual(sorted(place for group in told for place in group), sorted(net))
            self.assertEqual(told, sorted(sorted(group) for group in told))
            for one, other in itertools.combinations(net, 2):
                together = any(one in group and other in group for group in told)
                self.assertEqual(together, between[one, other] >= 3, (net, one, other))

    def test_where_all_are_held_by_three_nothing_cuts(self):
        held = 0
        for net in nets_for_cuts():
            if len(held_by_three(net)) == 1:
                self.assertEqual((lone_lines(net), parting_pairs(net), rings_in(net)), ([], [], []))
                held += 1
        self.assertGreater(held, 20)

    def test_strengths_and_orders_count_nothing(self):
        for net in itertools.chain(nets_for_cuts(), beaded_nets(40)):
            self.assertEqual(held_by_three(restrengthened(net)), held_by_three(net))
            self.assertEqual(held_by_three(turned(net)), held_by_three(net))


if __name__ == "__main__":
    unittest.main()
