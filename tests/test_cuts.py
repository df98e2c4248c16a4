"""Lines that cut alone, and two by two: points 41 to 43."""

import itertools
import unittest

from spareline.cuts import cut_off, lone_lines, parting_pairs
from spareline.errors import NoLine, NoPlace
from tests.helper import (LETTERS, TOWN, TWELVE, bare_lines, drawn_nets, groups_by_joining, lone_by_counting, mixed,
                          nets_for_cuts, pairs_by_counting, plain_net, refuses, restrengthened, ring_of, round_nets,
                          small_nets, turned, without)


class LoneLines(unittest.TestCase):
    def test_an_ordinary_net(self):
        self.assertEqual(lone_lines(TOWN), [("d", "e"), ("h", "i"), ("i", "j")])

    def test_nets_without_lines(self):
        for net in ({}, {"a": {}}, {"b": {}, "a": {}}):
            self.assertEqual(lone_lines(net), [])

    def test_a_chain_and_a_ring(self):
        places = mixed(TWELVE)
        chain = plain_net(places, ring_of(places)[:-1])
        self.assertEqual(lone_lines(chain), bare_lines(chain))
        self.assertEqual(lone_lines(plain_net(places, ring_of(places))), [])

    def test_groups_counted_anew(self):
        for net in nets_for_cuts():
            told = lone_lines(net)
            self.assertIs(type(told), list)
            self.assertEqual(told, lone_by_counting(net), net)
            self.assertTrue(all(type(line) is tuple for line in told))

    def test_strengths_and_orders_count_nothing(self):
        for net in nets_for_cuts():
            self.assertEqual(lone_lines(restrengthened(net)), lone_lines(net))
            self.assertEqual(lone_lines(turned(net)), lone_lines(net))


class CutOff(unittest.TestCase):
    def hold(self, net, lines, place):
        with_it = [group for group in groups_by_joining(net) if place in group][0]
        still = [group for group in groups_by_joining(without(net, lines)) if place in group][0]
        told = cut_off(net, lines, place)
        self.assertIs(type(told), list)
        self.assertEqual(told, [member for member in with_it if member not in still], (net, lines, place))

    def test_an_ordinary_net(self):
        self.assertEqual(cut_off(TOWN, [("e", "d")], "a"), ["e", "f", "g"])
        self.assertEqual(cut_off(TOWN, [("e", "d")], "f"), ["a", "b", "c", "d"])
        self.assertEqual(cut_off(TOWN, [("e", "d")], "h"), [])
        self.assertEqual(cut_off(TOWN, [("b", "c"), ("a", "d")], "b"), ["c", "d", "e", "f", "g"])
        self.assertEqual(cut_off(TOWN, [("b", "c"), ("c", "b")], "b"), [])
        self.assertEqual(cut_off(TOWN, [("i", "h"), ("j", "i"), ("h", "i")], "i"), ["h", "j"])

    def test_no_lines(self):
        for place in TOWN:
            self.assertEqual(cut_off(TOWN, [], place), [])
        self.assertEqual(cut_off({"a": {}}, [], "a"), [])

    def test_all_lines_of_small_nets(self):
        for net in small_nets():
            lines = bare_lines(net)
            for many in range(len(lines) + 1):
                for out in itertools.combinations(lines, many):
                    for place in net:
                        self.hold(net, list(out), place)

    def test_lines_in_either_order_and_several_times(self):
        for turn, net in enumerate(itertools.chain(round_nets(), drawn_nets(104))):
            lines = bare_lines(net)
            for many in (1, 2, 3, 8, len(lines)):
                out = mixed(lines, turn)[:many]
                told = out + [(other, one) for one, other in out[::2]] + out[:1]
                for place in mixed(net, turn)[:3]:
                    self.hold(net, mixed(told, turn), place)

    def test_lone_lines_and_pairs_cut_off(self):
        for net in round_nets():
            for out in [[line] for line in lone_lines(net)] + [list(pair) for pair in parting_pairs(net)]:
                for one, other in out:
                    self.assertIn(other, cut_off(net, out, one))


class CutOffRefusals(unittest.TestCase):
    def test_no_place(self):
        for text in ("z", "", "A", "a ", "aa", "abcdefghi", "a\n"):
            for lines in ([], [("a", "b")], [("b", "a"), ("a", "b")]):
                refuses(self, NoPlace, (text,), cut_off, TOWN, lines, text)
        refuses(self, NoPlace, ("a",), cut_off, {}, [], "a")

    def test_no_place_goes_ahead_of_no_line(self):
        refuses(self, NoPlace, ("z",), cut_off, TOWN, [("a", "z")], "z")
        refuses(self, NoPlace, ("z",), cut_off, TOWN, [("x", "y"), ("a", "a")], "z")
        refuses(self, NoPlace, ("",), cut_off, {}, [("", "")], "")

    def test_no_line_as_it_was_handed_in(self):
        for one, other in (("a", "c"), ("c", "a"), ("a", "a"), ("a", "z"), ("z", "a"), ("y", "z"), ("", "a"),
                           ("a", ""), ("A", "b"), ("a", "b "), ("a", "h"), ("k", "a")):
            for place in ("a", "k"):
                refuses(self, NoLine, (one, other), cut_off, TOWN, [(one, other)], place)

    def test_the_first_that_is_no_line(self):
        told = [("a", "b"), ("b", "a"), ("c", "a"), ("a", "c"), ("y", "z")]
        refuses(self, NoLine, ("c", "a"), cut_off, TOWN, told, "b")
        refuses(self, NoLine, ("z", "y"), cut_off, TOWN, told[:2] + [("z", "y")] + told[2:], "b")


class PartingPairs(unittest.TestCase):
    def test_an_ordinary_net(self):
        four = list(itertools.combinations([("a", "b"), ("a", "d"), ("b", "c"), ("c", "d")], 2))
        three = list(itertools.combinations([("e", "f"), ("e", "g"), ("f", "g")], 2))
        self.assertEqual(parting_pairs(TOWN), four + three)

    def test_nets_without_pairs(self):
        for net in ({}, {"a": {}}, {"b": {}, "a": {}}, plain_net("ab", [("a", "b", 1)]),
                    plain_net("abc", [("a", "b", 1), ("b", "c", 1)])):
            self.assertEqual(parting_pairs(net), [])
        for many in (4, 12):
            thick = plain_net(TWELVE[:many], [pair + (1,) for pair in itertools.combinations(TWELVE[:many], 2)])
            self.assertEqual(parting_pairs(thick), [])

    def test_a_ring(self):
        for many in range(3, 13):
            net = plain_net(TWELVE, ring_of(mixed(TWELVE[:many], many)))
            self.assertEqual(parting_pairs(net), list(itertools.combinations(bare_lines(net), 2)))

    def test_groups_counted_anew(self):
        for net in nets_for_cuts():
            told = parting_pairs(net)
            self.assertIs(type(told), list)
            self.assertEqual(told, pairs_by_counting(net), net)
            for pair in told:
                self.assertEqual([type(pair)] + [type(line) for line in pair], [tuple] * 3)

    def test_any_two_that_make_a_pair_with_a_third_make_one(self):
        for net in round_nets():
            pairs = {frozenset(pair) for pair in parting_pairs(net)}
            for one, other in itertools.combinations(pairs, 2):
                if one & other:
                    self.assertIn(one ^ other, pairs)

    def test_strengths_and_orders_count_nothing(self):
        for net in nets_for_cuts():
            self.assertEqual(parting_pairs(restrengthened(net)), parting_pairs(net))
            self.assertEqual(parting_pairs(turned(net)), parting_pairs(net))


class BeyondTheBounds(unittest.TestCase):
    """Nets somewhat beyond the bounds are not refused."""

    def test_fourteen_places(self):
        places = list(LETTERS[:14])
        net = plain_net(places, [(one, other, 10 ** 10) for one, other, strength in ring_of(places)])
        self.assertEqual(parting_pairs(net), list(itertools.combinations(bare_lines(net), 2)))
        self.assertEqual(lone_lines(net), [])
        self.assertEqual(cut_off(net, [("a", "b"), ("n", "a")], "a"), places[1:])


if __name__ == "__main__":
    unittest.main()
