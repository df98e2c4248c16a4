"""Nets: points 2, 3, 5, 12, 13 and 14."""

import itertools
import unittest

from spareline.errors import NoLine, NoPlace, NoStrength, OldLine, OldPlace, SamePlace, TooMany
from spareline.nets import crossing_of, groups_in, lines_in, made_net, net_joined, net_less
from tests.helper import (THIRTEEN, TWELVE, drawn_nets, groups_by_joining, no_names, no_strengths, no_texts, plain_net,
                          refuses, small_nets, turned)


def all_lines(places, strength):
    return [(one, other, strength) for one, other in itertools.combinations(places, 2)]


class MadeNets(unittest.TestCase):
    def test_an_ordinary_net(self):
        net = made_net(["owl", "elk", "fox"], [("owl", "elk", 12), ("elk", "fox", 3)])
        self.assertEqual(net, {"elk": {"fox": 3, "owl": 12}, "fox": {"elk": 3}, "owl": {"elk": 12}})

    def test_no_places_and_places_without_lines(self):
        self.assertEqual(made_net([], []), {})
        self.assertEqual(made_net(["a"], []), {"a": {}})
        self.assertEqual(made_net(["b", "a"], []), {"a": {}, "b": {}})

    def test_none_to_twelve_places(self):
        for many in range(13):
            lines = all_lines(TWELVE[:many], 10 ** 9)
            self.assertEqual(made_net(TWELVE[:many], lines), plain_net(TWELVE[:many], lines))

    def test_any_order_makes_the_same_net(self):
        places = ["b", "ab", "a", "zzzzzzzz"]
        lines = [("b", "a", 1), ("ab", "zzzzzzzz", 10 ** 9), ("a", "zzzzzzzz", 4)]
        net = plain_net(places, lines)
        for told in itertools.permutations(places):
            for order in itertools.permutations(lines):
                for turns in itertools.product((False, True), repeat=len(lines)):
                    handed = [(line[1], line[0], line[2]) if turn else line for line, turn in zip(order, turns)]
                    self.assertEqual(made_net(list(told), handed), net)

    def test_nets_come_back_from_their_places_and_lines(self):
        for net in itertools.chain(small_nets(), drawn_nets(200)):
            self.assertEqual(made_net(list(net), lines_in(net)), net)


class MadeNetRefusals(unittest.TestCase):
    def test_no_name(self):
        for thing in no_names():
            refuses(self, NoPlace, (thing,), made_net, [thing], [])
            refuses(self, NoPlace, (thing,), made_net, ["a", "b", thing, "a", ""], [("a", "a", 0)])

    def test_a_place_twice(self):
        later = "".join(["el", "k"])
        refuses(self, OldPlace, (later,), made_net, ["elk", "fox", later], [])
        refuses(self, OldPlace, ("a",), made_net, ["a", "b", "a", "b"], [])

    def test_the_first_of_the_places_goes(self):
        refuses(self, OldPlace, ("a",), made_net, ["a", "a", "A"], [])
        refuses(self, NoPlace, ("A",), made_net, ["a", "A", "a"], [])
        refuses(self, NoPlace, ("A",), made_net, ["A", "A"], [])

    def test_too_many_places(self):
        refuses(self, TooMany, (), made_net, THIRTEEN, [])
        refuses(self, TooMany, (), made_net, THIRTEEN + ["n"], [("a", "zz", 0)])
        self.assertEqual(len(made_net(TWELVE, [])), 12)

    def test_places_are_refused_ahead_of_too_many(self):
        refuses(self, NoPlace, (7,), made_net, THIRTEEN + [7], [])
        refuses(self, NoPlace, ("",), made_net, TWELVE + [""], [])
        refuses(self, OldPlace, ("a",), made_net, THIRTEEN + ["a"], [])
        refuses(self, OldPlace, ("l",), made_net, TWELVE + ["l"], [])

    def test_a_line_without_its_place(self):
        for thing in no_names() + ["c", "aa"]:
            refuses(self, NoPlace, (thing,), made_net, ["a", "b"], [(thing, "a", 1)])
            refuses(self, NoPlace, (thing,), made_net, ["a", "b"], [("a", thing, 1)])
            refuses(self, NoPlace, (thing,), made_net, [], [(thing, thing, 1)])

    def test_the_one_goes_ahead_of_the_other(self):
        first, second = ["x"], {"y": 1}
        refuses(self, NoPlace, (first,), made_net, ["a"], [(first, second, 1)])
        refuses(self, NoPlace, ("c",), made_net, ["a"], [("c", "d", 0)])

    def test_both_are_one_place(self):
        refuses(self, SamePlace, ("a",), made_net, ["a", "b"], [("a", "a", 1)])
        refuses(self, SamePlace, ("b",), made_net, ["a", "b"], [("a", "b", 1), ("b", "b", "no")])

    def test_an_old_line_as_it_stands(self):
        for ahead in (("a", "b", 1), ("b", "a", 1)):
            for one, other in (("a", "b"), ("b", "a")):
                refuses(self, OldLine, (one, other), made_net, ["b", "a"], [ahead, (one, other, 1)])
                refuses(self, OldLine, (one, other), made_net, ["b", "a"], [ahead, (one, other, 0), ("c", "c", 0)])

    def test_no_strength(self):
        for thing in no_strengths():
            refuses(self, NoStrength, (thing,), made_net, ["a", "b"], [("b", "a", thing)])
            refuses(self, NoStrength, (thing,), made_net, ["a", "b", "c"], [("a", "c", 1), ("b", "a", thing)])

    def test_line_after_line(self):
        refuses(self, NoStrength, (0,), made_net, ["a", "b"], [("a", "b", 0), ("a", "c", 1), ("a", "b", 1)])
        refuses(self, NoPlace, ("c",), made_net, ["a", "b"], [("a", "b", 1), ("a", "c", 0), ("a", "b", 1)])
        refuses(self, SamePlace, ("a",), made_net, ["a", "b"], [("a", "b", 1), ("a", "a", 0), ("b", "a", 1)])
        refuses(self, NoPlace, (None,), made_net, ["a", "b"], [("a", None, 1), (None, "a", 1)])


class Lines(unittest.TestCase):
    def test_lines_rise_with_the_lesser_place_first(self):
        net = plain_net(["owl", "fox", "elk"], [("owl", "elk", 12), ("fox", "elk", 3), ("owl", "fox", 10 ** 9)])
        self.assertEqual(lines_in(net), [("elk", "fox", 3), ("elk", "owl", 12), ("fox", "owl", 10 ** 9)])

    def test_names_are_ordered_as_texts(self):
        net = plain_net(["b", "ab", "a"], [("b", "ab", 1), ("b", "a", 2), ("ab", "a", 3)])
        self.assertEqual(lines_in(net), [("a", "ab", 3), ("a", "b", 2), ("ab", "b", 1)])

    def test_nets_without_lines(self):
        self.assertEqual(lines_in({}), [])
        self.assertEqual(lines_in({"b": {}, "a": {}}), [])

    def test_any_net(self):
        for net in itertools.chain(small_nets(), drawn_nets(200)):
            asked = sorted((one, other, net[one][other]) for one in net for other in net[one] if one < other)
            self.assertEqual(lines_in(net), asked)
            self.assertEqual(lines_in(turned(net)), asked)


class Crossings(unittest.TestCase):
    def test_an_ordinary_side(self):
        net = plain_net(["a", "b", "c", "d"], [("a", "b", 1), ("b", "c", 20), ("c", "d", 300), ("a", "d", 4000)])
        self.assertEqual(crossing_of(net, ["a"]), 4001)
        self.assertEqual(crossing_of(net, ["c", "b"]), 301)
        self.assertEqual(crossing_of(net, ["a", "c"]), 4321)

    def test_no_places_and_all_places(self):
        for net in small_nets():
            self.assertEqual(crossing_of(net, []), 0)
            self.assertEqual(crossing_of(net, list(net)), 0)

    def test_sums_beyond_the_greatest_strength(self):
        net = plain_net(TWELVE, all_lines(TWELVE, 10 ** 9))
        self.assertEqual(crossing_of(net, TWELVE[:6]), 36 * 10 ** 9)

    def test_any_side_in_any_order(self):
        for net in small_nets():
            for many in range(len(net) + 1):
                for side in itertools.permutations(net, many):
                    asked = sum(net[one][other] for one in side for other in net[one] if other not in side)
                    self.assertEqual(crossing_of(net, list(side)), asked)
                    rest = [place for place in net if place not in side]
                    self.assertEqual(crossing_of(net, rest), asked)


class Groups(unittest.TestCase):
    def test_ordinary_groups(self):
        net = plain_net(["f", "e", "d", "c", "b", "a"], [("f", "a", 1), ("c", "f", 1), ("b", "e", 10 ** 9)])
        self.assertEqual(groups_in(net), [["a", "c", "f"], ["b", "e"], ["d"]])

    def test_a_long_way_round(self):
        order = ["g", "a", "l", "c", "k", "b", "d", "j", "e", "i", "f", "h"]
        lines = [(one, other, 1) for one, other in zip(order, order[1:])]
        self.assertEqual(groups_in(plain_net(order, lines)), [TWELVE])

    def test_no_places_and_places_without_lines(self):
        self.assertEqual(groups_in({}), [])
        self.assertEqual(groups_in({"a": {}}), [["a"]])
        self.assertEqual(groups_in({"b": {}, "ab": {}, "a": {}}), [["a"], ["ab"], ["b"]])

    def test_any_net(self):
        for net in itertools.chain(small_nets(), drawn_nets(400)):
            asked = groups_by_joining(net)
            self.assertEqual(groups_in(net), asked)
            self.assertEqual(groups_in(turned(net)), asked)


class NetsLess(unittest.TestCase):
    def setUp(self):
        self.net = plain_net(["a", "b", "c", "d"], [("a", "b", 1), ("b", "c", 10 ** 9), ("a", "c", 5)])

    def test_lines_go_whatever_their_strengths(self):
        self.assertEqual(net_less(self.net, [("c", "b")]), plain_net("abcd", [("a", "b", 1), ("a", "c", 5)]))
        self.assertEqual(net_less(self.net, [("a", "b"), ("a", "c"), ("b", "c")]), plain_net("abcd", []))

    def test_no_lines_out(self):
        self.assertEqual(net_less(self.net, []), self.net)
        self.assertEqual(net_less({}, []), {})

    def test_either_order_and_several_times(self):
        asked = plain_net("abcd", [("b", "c", 10 ** 9), ("a", "c", 5)])
        for lines in itertools.product([("a", "b"), ("b", "a")], repeat=3):
            self.assertEqual(net_less(self.net, list(lines)), asked)

    def test_any_net(self):
        for net in small_nets():
            lines = lines_in(net)
            for many in range(len(lines) + 1):
                for out in itertools.combinations(lines, many):
                    told = [(other, one) for one, other, strength in out] + [line[:2] for line in out]
                    asked = plain_net(net, [line for line in lines if line not in out])
                    self.assertEqual(net_less(net, told), asked)

    def test_the_first_that_is_no_line(self):
        for one, other in (("a", "d"), ("d", "a"), ("a", "a"), ("a", "x"), ("x", "a"), ("x", "y"), ("", "a"),
                           ("a", ""), ("A", "b"), ("a", "b "), ("a", "a:b")):
            refuses(self, NoLine, (one, other), net_less, self.net, [(one, other)])
            told = [("a", "b"), ("b", "a"), (one, other), ("d", "c"), ("y", "x")]
            refuses(self, NoLine, (one, other), net_less, self.net, told)
            refuses(self, NoLine, (one, other), net_less, {}, [(one, other)])

    def test_things_that_are_no_texts_make_no_line(self):
        for thing in no_texts():
            refuses(self, NoLine, (thing, "a"), net_less, self.net, [(thing, "a")])
            refuses(self, NoLine, ("a", thing), net_less, self.net, [("a", "b"), ("a", thing)])


class NetsJoined(unittest.TestCase):
    def setUp(self):
        self.net = plain_net(["a", "b", "c"], [("a", "b", 3)])

    def test_a_line_that_was_there_is_stronger(self):
        for line in (("a", "b", 4), ("b", "a", 4)):
            self.assertEqual(net_joined(self.net, [line]), plain_net("abc", [("a", "b", 7)]))

    def test_a_line_that_was_not_there(self):
        for line in (("a", "c", 4), ("c", "a", 4)):
            self.assertEqual(net_joined(self.net, [line]), plain_net("abc", [("a", "b", 3), ("a", "c", 4)]))

    def test_several_for_one_line_add_up(self):
        told = [("c", "b", 1), ("b", "c", 20), ("b", "a", 10 ** 9), ("b", "c", 300), ("a", "b", 10 ** 9)]
        asked = plain_net("abc", [("a", "b", 2 * 10 ** 9 + 3), ("b", "c", 321)])
        self.assertEqual(net_joined(self.net, told), asked)

    def test_no_lines_joined(self):
        self.assertEqual(net_joined(self.net, []), self.net)
        self.assertEqual(net_joined({}, []), {})

    def test_joined_and_taken_out_again(self):
        for net in small_nets():
            missing = [pair for pair in itertools.combinations(net, 2) if pair[1] not in net[pair[0]]]
            joined = net_joined(net, [pair + (2,) for pair in missing])
            self.assertEqual(len(lines_in(joined)), len(net) * (len(net) - 1) // 2)
            self.assertEqual(net_less(joined, missing), net)


class BeyondTheBounds(unittest.TestCase):
    """Nets somewhat beyond the bounds are refused only where a point says so."""

    def test_thirteen_places_and_long_names(self):
        places = THIRTEEN + ["abcdefghij"]
        lines = all_lines(places, 10 ** 9 + 1)
        net = plain_net(places, lines)
        self.assertEqual(lines_in(net), sorted((min(line[:2]), max(line[:2]), line[2]) for line in lines))
        self.assertEqual(groups_in(net), [sorted(places)])
        self.assertEqual(crossing_of(net, ["abcdefghij"]), 13 * (10 ** 9 + 1))
        self.assertEqual(net_less(net, [line[:2] for line in lines]), plain_net(places, []))
        self.assertEqual(net_joined(plain_net(places, []), lines), net)


if __name__ == "__main__":
    unittest.main()
