"""Routes and sides between two places, and the paper they make: points 22 to 26."""

import itertools
import unittest

from spareline.errors import NoPlace, SamePlace
from spareline.routes import is_shown, most_between, routes_between, side_between
from tests.helper import (LETTERS, TWELVE, bare_lines, drawn_nets, groups_by_joining, least_sides, leaving, mixed,
                          plain_net, refuses, small_nets, turned)

# Two ways round, and a line between them that both would like to use.
BRIDGED = plain_net("abcd", [("a", "b", 1), ("a", "c", 1), ("b", "c", 1), ("b", "d", 1), ("c", "d", 1)])


def pairs_of(net):
    return list(itertools.permutations(net, 2))


def asked_nets():
    """Nets and two places of each: all pairs of small nets, some of greater ones."""
    for net in small_nets():
        for one, other in pairs_of(net):
            yield net, one, other
    for turn, net in enumerate(drawn_nets(260)):
        for one, other in mixed(pairs_of(net), turn)[:6]:
            yield net, one, other


def are_routes(net, one, other, routes):
    """Whether routes walk from the one to the other along lines, no line beyond its strength."""
    used = {}
    for many, places in routes:
        if many < 1 or len(places) < 2 or places[0] != one or places[-1] != other:
            return False
        if any(places.count(place) > 1 or place not in net for place in places):
            return False
        for at in range(1, len(places)):
            line = frozenset(places[at - 1:at + 1])
            used[line] = used.get(line, 0) + many
    for line, many in used.items():
        here, there = line
        if net[here].get(there, 0) < many:
            return False
    return True


def shown_by_hand(net, one, other, routes, side):
    if not are_routes(net, one, other, routes):
        return False
    if any(place not in net for place in side) or any(side[at] >= side[at + 1] for at in range(len(side) - 1)):
        return False
    if one not in side or other in side:
        return False
    return sum(many for many, places in routes) == leaving(net, side)


class MostBetween(unittest.TestCase):
    def test_an_ordinary_net(self):
        net = plain_net(["elk", "fox", "owl", "ram"],
                        [("elk", "fox", 3), ("fox", "owl", 2), ("elk", "ram", 4), ("ram", "owl", 5)])
        self.assertEqual(most_between(net, "elk", "owl"), 6)
        self.assertEqual(most_between(net, "fox", "ram"), 5)
        self.assertEqual(most_between(BRIDGED, "a", "d"), 2)
        self.assertEqual(most_between(BRIDGED, "b", "c"), 3)

    def test_the_least_crossing_and_the_same_from_either_place(self):
        for net, one, other in asked_nets():
            told = most_between(net, one, other)
            self.assertIs(type(told), int)
            self.assertEqual(most_between(net, other, one), told)
            if len(net) <= 6:
                self.assertEqual(told, least_sides(net, [one], [other])[0])

    def test_nought_just_where_the_two_are_in_unlike_groups(self):
        for net, one, other in asked_nets():
            joined = any(one in group and other in group for group in groups_by_joining(net))
            self.assertEqual(most_between(net, one, other) > 0, joined)

    def test_sums_beyond_the_greatest_strength(self):
        net = plain_net(TWELVE, [pair + (10 ** 9,) for pair in itertools.combinations(TWELVE, 2)])
        self.assertEqual(most_between(net, "a", "l"), 11 * 10 ** 9)

    def test_somewhat_beyond_the_bounds(self):
        places = LETTERS[:14]
        net = plain_net(places, [pair + (10 ** 10,) for pair in itertools.combinations(places, 2)])
        self.assertEqual(most_between(net, "a", "n"), 13 * 10 ** 10)
        self.assertIs(is_shown(net, "a", "n", routes_between(net, "a", "n"), side_between(net, "a", "n")), True)


class RoutesBetween(unittest.TestCase):
    def test_an_ordinary_net(self):
        routes = routes_between(BRIDGED, "a", "d")
        self.assertEqual(sorted(routes), [(1, ["a", "b", "d"]), (1, ["a", "c", "d"])])
        net = plain_net("ab", [("a", "b", 10 ** 9)])
        self.assertEqual(routes_between(net, "b", "a"), [(10 ** 9, ["b", "a"])])

    def test_routes_walked_and_summed(self):
        for net, one, other in asked_nets():
            routes = routes_between(net, one, other)
            self.assertIs(type(routes), list)
            for route in routes:
                self.assertIs(type(route), tuple)
                self.assertEqual([type(part) for part in route], [int, list])
            self.assertTrue(are_routes(net, one, other, routes), (net, routes))
            self.assertEqual(sum(many for many, places in routes), most_between(net, one, other))
            self.assertLessEqual(len(routes), len(bare_lines(net)))

    def test_none_where_nothing_goes(self):
        for net in ({"a": {}, "b": {}}, plain_net("abcd", [("a", "c", 3), ("b", "d", 10 ** 9)])):
            self.assertEqual(routes_between(net, "a", "b"), [])
            self.assertEqual(routes_between(net, "b", "a"), [])

    def test_first_ways_that_must_be_turned_back(self):
        net = plain_net("abcdef", [("a", "b", 1), ("b", "e", 1), ("e", "f", 1), ("a", "c", 1), ("c", "d", 1),
                                   ("d", "e", 1), ("b", "d", 1), ("d", "f", 1), ("c", "f", 1)])
        for one, other in pairs_of(net):
            routes = routes_between(net, one, other)
            self.assertTrue(are_routes(net, one, other, routes))
            self.assertEqual(sum(many for many, places in routes), least_sides(net, [one], [other])[0])

    def test_the_same_routes_for_equal_nets(self):
        for net, one, other in asked_nets():
            self.assertEqual(routes_between(turned(net), one, other), routes_between(net, one, other))


class SideBetween(unittest.TestCase):
    def hold(self, net, one, other):
        side = side_between(net, one, other)
        self.assertIs(type(side), list)
        amount, sides = least_sides(net, [one], [other])
        self.assertIn(side, sides)
        for wider in sides:
            self.assertLessEqual(set(side), set(wider))

    def test_an_ordinary_net(self):
        chain = plain_net("abcd", [("a", "b", 5), ("b", "c", 2), ("c", "d", 2)])
        self.assertEqual(side_between(chain, "a", "d"), ["a", "b"])
        self.assertEqual(side_between(chain, "d", "a"), ["d"])
        self.assertEqual(side_between(chain, "c", "d"), ["a", "b", "c"])

    def test_groups_by_themselves(self):
        net = plain_net("dcba", [("a", "c", 3)])
        self.assertEqual(side_between(net, "c", "b"), ["a", "c"])
        self.assertEqual(side_between(net, "b", "c"), ["b"])

    def test_the_side_within_every_other_such_side(self):
        for net, one, other in asked_nets():
            if len(net) <= 6:
                self.hold(net, one, other)

    def test_nets_of_twelve_places(self):
        for turn, net in enumerate(drawn_nets(78)):
            if len(net) == 12:
                for one, other in mixed(pairs_of(net), turn)[:4]:
                    self.hold(net, one, other)

    def test_crossing_and_routes_are_equal(self):
        for net, one, other in asked_nets():
            side = side_between(net, one, other)
            self.assertEqual(side, sorted(set(side)))
            self.assertTrue(one in side and other not in side)
            self.assertEqual(leaving(net, side), sum(many for many, places in routes_between(net, one, other)))
            self.assertEqual(side_between(turned(net), one, other), side)


def bent_routes(net, routes):
    """The routes with one thing bent: a number, a place, a route."""
    for at, (many, places) in enumerate(routes):
        ahead, behind = routes[:at], routes[at + 1:]
        yield ahead + behind
        yield ahead + [(many, list(places))] * 2 + behind
        for number in (many + 1, many - 1, -many, 0, -1):
            yield ahead + [(number, places)] + behind
        yield ahead + [(many, places[::-1])] + behind
        yield ahead + [(1, places), (many - 1, places)] + behind
        yield ahead + [(many + 1, places), (-1, places)] + behind
        yield ahead + [(0, places)] + routes[at:]
        for near in bent_places(net, places):
            yield ahead + [(many, near)] + behind
    for many, places in ((1, []), (0, []), (1, ["no"]), (-3, ["a", "", "b"])):
        yield routes + [(many, places)]


def bent_places(net, places):
    yield []
    for at in range(len(places) + 1):
        yield places[:at]
        yield places[at:]
        yield places[:at] + places[at + 1:]
        for place in sorted(net) + ["no", "", "A", " a"]:
            yield places[:at] + [place] + places[at:]
            yield places[:at] + [place] + places[at + 1:]
            yield places[:at + 1] + [place] + places[at:]


def bent_sides(net, side):
    yield []
    yield sorted(net)
    yield sorted(net)[::-1]
    yield side[::-1]
    yield side + side
    yield [place for place in sorted(net) if place not in side]
    for place in sorted(net) + ["no", "", "A", "zzzzzzzzz"]:
        yield side + [place]
        yield sorted(side + [place])
        yield sorted(set(side + [place]))
        yield [other for other in side if other != place]
        yield [place]


class Shown(unittest.TestCase):
    def hold(self, net, one, other, routes, side):
        told = is_shown(net, one, other, routes, side)
        self.assertIs(told, shown_by_hand(net, one, other, routes, side), (net, one, other, routes, side))
        return told

    def test_what_was_told_is_true(self):
        for net, one, other in asked_nets():
            routes, side = routes_between(net, one, other), side_between(net, one, other)
            self.assertIs(is_shown(net, one, other, routes, side), True)
            self.assertIs(is_shown(turned(net), one, other, routes[::-1], side), True)

    def test_one_thing_bent(self):
        told = []
        nets = [net for net in small_nets()][::9] + [BRIDGED] + list(drawn_nets(26))
        for turn, net in enumerate(nets):
            for one, other in mixed(pairs_of(net), turn)[:2]:
                routes, side = routes_between(net, one, other), side_between(net, one, other)
                told += [self.hold(net, one, other, near, side) for near in bent_routes(net, routes)]
                told += [self.hold(net, one, other, routes, near) for near in bent_sides(net, side)]
        self.assertGreater(told.count(False), 1000)
        self.assertGreater(told.count(True), 100)

    def test_any_order_and_more_routes_than_lines(self):
        net = plain_net("ab", [("a", "b", 3)])
        self.assertIs(is_shown(net, "a", "b", [(1, ["a", "b"])] * 3, ["a"]), True)
        self.assertIs(is_shown(net, "a", "b", [(2, ["a", "b"]), (1, ["a", "b"])], ["a"]), True)
        self.assertIs(is_shown(net, "a", "b", [(2, ["a", "b"]), (2, ["a", "b"])], ["a"]), False)
        wide = plain_net("ab", [("a", "b", 400)])
        self.assertIs(is_shown(wide, "a", "b", [(1, ["a", "b"])] * 400, ["a"]), True)
        self.assertIs(is_shown(wide, "a", "b", [(1, ["a", "b"])] * 399, ["a"]), False)

    def test_sums_that_are_less_or_more_than_the_crossing(self):
        net = plain_net("ab", [("a", "b", 3)])
        for many in (-3, 0, 1, 2, 4, 10 ** 12):
            self.assertIs(is_shown(net, "a", "b", [(many, ["a", "b"])], ["a"]), False)
        self.assertIs(is_shown(net, "a", "b", [], ["a"]), False)
        self.assertIs(is_shown(net, "a", "b", [(4, ["a", "b"]), (-1, ["a", "b"])], ["a"]), False)
        self.assertIs(is_shown(net, "a", "b", [(3, ["a", "b"]), (0, ["a", "b"])], ["a"]), False)

    def test_no_routes_and_nothing_to_go(self):
        net = plain_net("abc", [("b", "c", 1)])
        self.assertIs(is_shown(net, "a", "b", [], ["a"]), True)
        self.assertIs(is_shown(net, "b", "a", [], ["b", "c"]), True)
        self.assertIs(is_shown(net, "b", "a", [], ["b"]), False)
        self.assertIs(is_shown(net, "b", "a", [], ["c", "b"]), False)
        self.assertIs(is_shown(net, "a", "b", [], []), False)
        self.assertIs(is_shown(net, "a", "b", [], ["c"]), False)
        self.assertIs(is_shown(net, "a", "b", [], ["a", "b", "c"]), False)

    def test_a_line_used_both_ways_counts_twice(self):
        routes = [(1, ["a", "b", "c", "d"]), (1, ["a", "c", "b", "d"])]
        self.assertIs(is_shown(BRIDGED, "a", "d", routes, ["a"]), False)
        wider = plain_net("abcd", [line + (1 + (line == ("b", "c")),) for line in bare_lines(BRIDGED)])
        self.assertIs(is_shown(wider, "a", "d", routes, ["a"]), True)

    def test_a_place_twice_on_a_route(self):
        """No line is overloaded here and the numbers are right: only the round that is walked is wrong."""
        net = plain_net("abxyz", [("a", "x", 1), ("b", "x", 1), ("x", "y", 2), ("y", "z", 1), ("x", "z", 1)])
        self.assertIs(is_shown(net, "a", "b", [(1, ["a", "x", "b"])], ["a"]), True)
        for places in (["a", "x", "y", "z", "x", "b"], ["a", "x", "z", "y", "x", "b"], ["a", "x", "y", "x", "b"]):
            self.assertIs(is_shown(net, "a", "b", [(1, places)], ["a"]), False)
        ring = plain_net("abc", [("a", "b", 2), ("a", "c", 2), ("b", "c", 2)])
        for places in (["a", "c", "a", "b"], ["a", "b", "c", "a", "b"], ["a", "b", "c", "b"], ["a", "a", "b"],
                       ["a", "b", "b"]):
            self.assertIs(is_shown(ring, "a", "b", [(3, ["a", "b"]), (1, places)], ["a"]), False)
        for ahead in ([(2, ["a", "b"])], [(1, ["a", "b"]), (1, ["a", "b"])]):
            self.assertIs(is_shown(ring, "a", "b", ahead + [(2, ["a", "c", "b"])], ["a"]), True)

    def test_any_least_side_will_do(self):
        chain = plain_net("abcd", [("a", "b", 2), ("b", "c", 2), ("c", "d", 2)])
        routes = [(2, ["a", "b", "c", "d"])]
        for side in (["a"], ["a", "b"], ["a", "b", "c"]):
            self.assertIs(is_shown(chain, "a", "d", routes, side), True)
        for side in (["b", "a"], ["a", "a", "b"], ["a", "c"], ["a", "no"], ["", "a"]):
            self.assertIs(is_shown(chain, "a", "d", routes, side), False)

    def test_a_side_with_more_than_places_of_the_net(self):
        net = plain_net("bc", [("b", "c", 1)])
        for side in (["a", "b"], ["b", "d"], ["", "b"], ["B", "b"]):
            self.assertIs(is_shown(net, "b", "c", [(1, ["b", "c"])], side), False)


class TwoPlaces(unittest.TestCase):
    """The refusals of the four questions of two places."""

    def setUp(self):
        self.net = plain_net("abc", [("a", "b", 1)])

    def refuse(self, kind, value, one, other, net=None):
        net = self.net if net is None else net
        for call in (most_between, routes_between, side_between):
            refuses(self, kind, (value,), call, net, one, other)
        for routes, side in (([], []), ([(1, ["a", "b"])], ["a"]), ([(0, [])], ["x", ""])):
            refuses(self, kind, (value,), is_shown, net, one, other, routes, side)

    def test_the_one_is_no_place(self):
        for text in ("d", "", "A", "a ", "aa", "abcdefghi", "a:b", "a\nb"):
            self.refuse(NoPlace, text, text, "b")

    def test_the_other_is_no_place(self):
        for text in ("d", "", "A", "a ", "aa", "abcdefghi", "a:b", "a\nb"):
            self.refuse(NoPlace, text, "b", text)

    def test_the_one_goes_ahead_of_the_other(self):
        for one, other in (("d", "e"), ("e", "d"), ("", "d"), ("d", "")):
            self.refuse(NoPlace, one, one, other)

    def test_no_place_goes_ahead_of_the_same_place(self):
        text = "no"
        self.refuse(NoPlace, text, text, text)

    def test_one_place_twice(self):
        for place in ("a", "b", "c"):
            self.refuse(SamePlace, place, place, place)
        self.refuse(SamePlace, "a", "a", "a", {"a": {}})

    def test_the_net_without_places(self):
        self.refuse(NoPlace, "a", "a", "b", {})
        self.refuse(NoPlace, "a", "a", "a", {})


if __name__ == "__main__":
    unittest.main()
