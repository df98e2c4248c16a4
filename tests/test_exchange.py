"""Exchanges at a place, how much of one is bearable, and places cleared: points 51 to 55."""

import itertools
import unittest

from spareline.errors import NoLine, NoPlace, Odd, TooWeak
from spareline.exchange import Exchange, cleared_by, most_bearable
from tests.helper import (TWELVE, drawn_nets, drawn_strong, first_weak_side, keeps_by_sides, mixed, plain_net, put_to,
                          refusal_of, refuses, refuses_with_side, shape_of, small_nets, turned)

# A place p with lines to three others, two of which have a line between them, and a place by itself.
TOWN = plain_net("pabcz", [("p", "a", 3), ("p", "b", 5), ("c", "p", 4), ("a", "b", 2)])


def done_by_hand(net, place, one, other, many):
    if one == other:
        return put_to(net, [(place, one, -2 * many)])
    return put_to(net, [(place, one, -many), (place, other, -many), (one, other, many)])


def possible(net, place, one, other, many):
    if one == other:
        return net[place].get(one, 0) >= 2 * many
    return min(net[place].get(one, 0), net[place].get(other, 0)) >= many


def is_bearable(net, place, one, other, many, k):
    if not possible(net, place, one, other, many):
        return False
    return keeps_by_sides(done_by_hand(net, place, one, other, many), k, place)


def ends_at(net, place):
    """Each two ends at a place, unlike ones in both orders, and each place twice."""
    others = [other for other in mixed(net) if other != place]
    return list(itertools.product(others, others))


class Done(unittest.TestCase):
    def test_values_are_read_by_their_names(self):
        exchange = Exchange("p", "b", "a", 7)
        self.assertEqual((exchange.place, exchange.one, exchange.other, exchange.many), ("p", "b", "a", 7))
        exchange.done(plain_net("pab", [("p", "a", 7), ("p", "b", 7)]))
        self.assertEqual((exchange.place, exchange.one, exchange.other, exchange.many), ("p", "b", "a", 7))

    def test_ends_unlike(self):
        self.assertEqual(Exchange("p", "a", "b", 2).done(TOWN),
                         plain_net("pabcz", [("p", "a", 1), ("p", "b", 3), ("p", "c", 4), ("a", "b", 4)]))

    def test_a_line_is_made_and_one_is_there_no_more(self):
        self.assertEqual(Exchange("p", "c", "a", 3).done(TOWN),
                         plain_net("pabcz", [("p", "b", 5), ("p", "c", 1), ("a", "b", 2), ("a", "c", 3)]))
        both = plain_net("pab", [("p", "a", 4), ("p", "b", 4)])
        self.assertEqual(Exchange("p", "a", "b", 4).done(both), plain_net("pab", [("a", "b", 4)]))

    def test_both_ends_one_place(self):
        self.assertEqual(Exchange("p", "b", "b", 2).done(TOWN),
                         plain_net("pabcz", [("p", "a", 3), ("p", "b", 1), ("p", "c", 4), ("a", "b", 2)]))
        self.assertEqual(Exchange("p", "c", "c", 2).done(TOWN),
                         plain_net("pabcz", [("p", "a", 3), ("p", "b", 5), ("a", "b", 2)]))

    def test_great_numbers(self):
        net = plain_net("pab", [("p", "a", 10 ** 9), ("p", "b", 10 ** 9), ("a", "b", 10 ** 9)])
        self.assertEqual(Exchange("p", "a", "b", 10 ** 9).done(net), plain_net("pab", [("a", "b", 2 * 10 ** 9)]))
        self.assertEqual(Exchange("p", "a", "b", 10 ** 9 - 1).done(net),
                         plain_net("pab", [("p", "a", 1), ("p", "b", 1), ("a", "b", 2 * 10 ** 9 - 1)]))

    def test_an_exchange_may_be_done_again(self):
        exchange = Exchange("p", "a", "b", 1)
        net = exchange.done(exchange.done(TOWN))
        self.assertEqual(net, Exchange("p", "a", "b", 2).done(TOWN))
        self.assertEqual(exchange.undone(exchange.undone(net)), TOWN)

    def test_sums_reckoned_by_hand(self):
        for net in itertools.chain(small_nets(), drawn_nets(26), drawn_strong(60)):
            for place in mixed(net)[:3]:
                for one, other in ends_at(net, place)[:20]:
                    for many in (1, 2, 3, 10 ** 9 // 2, 10 ** 9):
                        self.hold_done(net, place, one, other, many)

    def hold_done(self, net, place, one, other, many):
        exchange = Exchange(place, one, other, many)
        if possible(net, place, one, other, many):
            ahead = shape_of(net)
            told = exchange.done(net)
            self.assertEqual(told, done_by_hand(net, place, one, other, many))
            self.assertEqual(exchange.undone(told), net)
            self.assertEqual(exchange.done(turned(net)), told)
            self.assertEqual(shape_of(net), ahead)
        else:
            weak = [end for end in (one, other) if net[place].get(end, 0) < (2 * many if one == other else many)]
            refuses(self, NoLine, (place, weak[0]), exchange.done, net)


class Undone(unittest.TestCase):
    def test_ends_unlike(self):
        self.assertEqual(Exchange("p", "b", "a", 1).undone(TOWN),
                         plain_net("pabcz", [("p", "a", 4), ("p", "b", 6), ("p", "c", 4), ("a", "b", 1)]))
        lines = [("p", "a", 3), ("p", "b", 5), ("p", "c", 4), ("a", "c", 2), ("b", "c", 2)]
        self.assertEqual(Exchange("c", "a", "b", 2).undone(TOWN), plain_net("pabcz", lines))

    def test_both_ends_one_place(self):
        self.assertEqual(Exchange("z", "a", "a", 3).undone(TOWN), put_to(TOWN, [("z", "a", 6)]))
        self.assertEqual(Exchange("p", "a", "a", 10 ** 9).undone(TOWN), put_to(TOWN, [("p", "a", 2 * 10 ** 9)]))

    def test_done_behind_undone(self):
        for net in itertools.chain(small_nets(), drawn_nets(26), drawn_strong(60)):
            for place in mixed(net)[:3]:
                for one, other in ends_at(net, place)[:20]:
                    for many in (1, 2, 7, 10 ** 9):
                        self.hold_undone(net, place, one, other, many)

    def hold_undone(self, net, place, one, other, many):
        exchange = Exchange(place, one, other, many)
        if one != other and net[one].get(other, 0) < many:
            refuses(self, NoLine, (one, other), exchange.undone, net)
            return
        ahead = shape_of(net)
        told = exchange.undone(net)
        self.assertEqual(told, done_by_hand(net, place, one, other, -many))
        self.assertEqual(exchange.done(told), net)
        self.assertEqual(exchange.undone(turned(net)), told)
        self.assertEqual(shape_of(net), ahead)


class DoneRefusals(unittest.TestCase):
    def test_no_place(self):
        for text in ("q", "", "P", "p ", "pp", "a\n", "abcdefghi"):
            for many in (1, 10 ** 9):
                for call in (Exchange.done, Exchange.undone):
                    refuses(self, NoPlace, (text,), call, Exchange(text, "a", "b", many), TOWN)
                    refuses(self, NoPlace, (text,), call, Exchange("p", text, "b", many), TOWN)
                    refuses(self, NoPlace, (text,), call, Exchange("p", "a", text, many), TOWN)
                    refuses(self, NoPlace, (text,), call, Exchange("p", text, text, many), TOWN)

    def test_the_first_that_is_no_place(self):
        for call in (Exchange.done, Exchange.undone):
            refuses(self, NoPlace, ("x",), call, Exchange("x", "y", "w", 1), TOWN)
            refuses(self, NoPlace, ("y",), call, Exchange("p", "y", "w", 1), TOWN)
            refuses(self, NoPlace, ("x",), call, Exchange("x", "a", "w", 1), TOWN)
            refuses(self, NoPlace, ("w",), call, Exchange("z", "a", "w", 1), TOWN)
            refuses(self, NoPlace, ("p",), call, Exchange("p", "a", "b", 1), {})

    def test_no_line_to_take_from(self):
        refuses(self, NoLine, ("p", "z"), Exchange("p", "z", "a", 1).done, TOWN)
        refuses(self, NoLine, ("p", "z"), Exchange("p", "a", "z", 1).done, TOWN)
        refuses(self, NoLine, ("p", "z"), Exchange("p", "z", "z", 1).done, TOWN)
        refuses(self, NoLine, ("c", "a"), Exchange("c", "a", "b", 1).done, TOWN)
        refuses(self, NoLine, ("c", "b"), Exchange("c", "b", "a", 1).done, TOWN)
        refuses(self, NoLine, ("c", "b"), Exchange("c", "p", "b", 1).done, TOWN)

    def test_too_weak_by_one(self):
        refuses(self, NoLine, ("p", "a"), Exchange("p", "a", "b", 4).done, TOWN)
        refuses(self, NoLine, ("p", "a"), Exchange("p", "b", "a", 4).done, TOWN)
        refuses(self, NoLine, ("p", "c"), Exchange("p", "b", "c", 5).done, TOWN)
        refuses(self, NoLine, ("p", "b"), Exchange("p", "b", "c", 6).done, TOWN)
        refuses(self, NoLine, ("p", "a"), Exchange("p", "a", "a", 2).done, TOWN)
        refuses(self, NoLine, ("p", "b"), Exchange("p", "b", "b", 3).done, TOWN)
        refuses(self, NoLine, ("p", "c"), Exchange("p", "c", "c", 3).done, TOWN)

    def test_no_line_to_take_back_from(self):
        refuses(self, NoLine, ("a", "b"), Exchange("p", "a", "b", 3).undone, TOWN)
        refuses(self, NoLine, ("b", "a"), Exchange("z", "b", "a", 3).undone, TOWN)
        refuses(self, NoLine, ("a", "c"), Exchange("p", "a", "c", 1).undone, TOWN)
        refuses(self, NoLine, ("c", "z"), Exchange("p", "c", "z", 1).undone, TOWN)


class MostBearable(unittest.TestCase):
    def hold(self, net, place, one, other, k):
        told = most_bearable(net, place, one, other, k)
        self.assertIs(type(told), int)
        where = (net, place, one, other, k, told)
        if not keeps_by_sides(net, k, place):
            self.assertEqual(told, 0, where)
            return 0
        self.assertTrue(is_bearable(net, place, one, other, told, k), where)
        self.assertFalse(is_bearable(net, place, one, other, told + 1, k), where)
        return told

    def test_an_ordinary_net(self):
        net = plain_net("pabc", [("p", "a", 4), ("p", "b", 4), ("p", "c", 4), ("a", "b", 1), ("b", "c", 1)])
        self.assertEqual(most_bearable(net, "p", "a", "b", 2), 3)
        self.assertEqual(most_bearable(net, "p", "a", "c", 2), 4)
        self.assertEqual(most_bearable(net, "p", "b", "b", 2), 2)
        self.assertEqual(most_bearable(net, "p", "a", "a", 2), 1)
        self.assertEqual(most_bearable(net, "p", "a", "a", 5), 0)
        self.assertEqual(most_bearable(net, "p", "b", "b", 5), 0)

    def test_no_lines_at_the_place(self):
        net = plain_net("pab", [("a", "b", 9)])
        for one, other in itertools.product("ab", "ab"):
            self.assertEqual(most_bearable(net, "p", one, other, 2), 0)

    def test_one_and_two_other_places(self):
        for strength in (1, 2, 3, 10 ** 9):
            net = plain_net("ap", [("a", "p", strength)])
            for k in range(2, 7):
                self.assertEqual(most_bearable(net, "p", "a", "a", k), strength // 2)
        net = plain_net("abp", [("a", "p", 5), ("b", "p", 7)])
        self.assertEqual(most_bearable(net, "p", "a", "b", 5), 5)
        self.assertEqual(most_bearable(net, "p", "b", "b", 5), 1)
        self.assertEqual(most_bearable(net, "p", "a", "a", 2), 1)
        self.assertEqual(most_bearable(net, "p", "a", "b", 6), 0)

    def test_two_other_places_that_have_less_ahead(self):
        net = plain_net("pabcd", [("p", "a", 9), ("p", "b", 9), ("a", "b", 9), ("c", "d", 9), ("c", "p", 2)])
        self.assertEqual(most_bearable(net, "p", "a", "b", 3), 0)
        self.assertEqual(most_bearable(net, "p", "a", "b", 2), 8)
        apart = plain_net("pabz", [("p", "a", 9), ("p", "b", 9)])
        self.assertEqual(most_bearable(apart, "p", "a", "b", 2), 0)

    def test_the_place_itself_needs_no_routes(self):
        net = plain_net("pab", [("p", "a", 1), ("p", "b", 1), ("a", "b", 6)])
        for k in range(2, 7):
            self.assertEqual(most_bearable(net, "p", "a", "b", k), 1)

    def test_all_sides_tried(self):
        most = set()
        for turn, net in enumerate(drawn_strong(210)):
            for place in mixed(net, turn)[:2]:
                for one, other in mixed(ends_at(net, place), turn)[:8]:
                    for k in (2, 2 + turn % 5, 6):
                        most.add(self.hold(net, place, one, other, k))
        self.assertTrue(most >= {0, 1, 2, 3}, most)
        self.assertTrue(any(10 ** 8 < many < 10 ** 9 - 1 for many in most), most)

    def test_all_ends_of_small_nets(self):
        for turn, net in enumerate(small_nets()):
            if turn % 7 == 0 or len(net) < 4:
                for place in net:
                    for one, other in ends_at(net, place):
                        for k in range(2, 7):
                            self.hold(net, place, one, other, k)

    def test_great_strengths_are_lessened_just_as_far(self):
        great = 10 ** 9
        net = plain_net("pabc", [("p", "a", great), ("p", "b", great), ("a", "c", great - 6), ("b", "c", 1)])
        self.assertEqual(most_bearable(net, "p", "a", "a", 2), great // 2 - 1)
        self.assertEqual(most_bearable(net, "p", "a", "b", 3), great)
        self.assertEqual(most_bearable(put_to(net, [("p", "c", 3)]), "p", "a", "b", 6), great)
        weak = plain_net("pabc", [("p", "a", great), ("p", "b", great), ("a", "c", 3), ("b", "c", 4)])
        self.assertEqual(most_bearable(weak, "p", "a", "b", 5), great)
        self.assertEqual(most_bearable(put_to(weak, [("p", "c", great)]), "p", "a", "c", 5), great - 1)


class Cleared(unittest.TestCase):
    def hold(self, net, place, k):
        exchanges = cleared_by(net, place, k)
        self.assertIs(type(exchanges), list)
        rest = net
        for exchange in exchanges:
            self.assertIs(type(exchange), Exchange)
            self.assertEqual(exchange.place, place)
            self.assertLessEqual(exchange.one, exchange.other)
            self.assertGreaterEqual(exchange.many, 1)
            self.assertTrue(possible(rest, place, exchange.one, exchange.other, exchange.many))
            self.assertLessEqual(exchange.many, most_bearable(rest, place, exchange.one, exchange.other, k))
            rest = done_by_hand(rest, place, exchange.one, exchange.other, exchange.many)
        ends = [(exchange.one, exchange.other) for exchange in exchanges]
        self.assertEqual(len(ends), len(set(ends)))
        self.assertEqual(sorted(rest), sorted(net))
        self.assertEqual(rest[place], {})
        return rest

    def test_an_ordinary_place(self):
        net = plain_net("pabc", [("p", "a", 1), ("p", "b", 1), ("a", "c", 2), ("b", "c", 2)])
        self.assertEqual(self.hold(net, "p", 2), plain_net("pabc", [("a", "b", 1), ("a", "c", 2), ("b", "c", 2)]))

    def test_places_without_lines_and_nets_of_one_and_two_places(self):
        for k in range(2, 7):
            self.assertEqual(cleared_by({"p": {}}, "p", k), [])
            self.assertEqual(cleared_by({"p": {}, "a": {}}, "p", k), [])
            self.assertEqual(cleared_by(plain_net("pab", [("a", "b", 6)]), "p", k), [])
            told = cleared_by(plain_net("pa", [("a", "p", 8)]), "p", k)
            self.assertEqual([(each.one, each.other, each.many) for each in told], [("a", "a", 4)])

    def test_each_place_of_many_nets(self):
        cleared = 0
        for net in itertools.chain(drawn_strong(140), drawn_nets(52)):
            for place in net:
                for k in range(2, 7):
                    if refusal_of(cleared_by, net, place, k) is None:
                        rest = self.hold(net, place, k)
                        cleared += len(net) > 3 and len(net[place]) > 1
                        if len(net) < 7:
                            self.assertTrue(keeps_by_sides(rest, k, place), (net, place, k))
        self.assertGreater(cleared, 300)

    def test_what_is_not_refused(self):
        for net in drawn_strong(140):
            for place in net:
                for k in range(2, 7):
                    due = sum(net[place].values()) % 2 == 1 or not keeps_by_sides(net, k, place)
                    self.assertEqual(refusal_of(cleared_by, net, place, k) is not None, due)

    def test_places_that_hang_on_few_others(self):
        # Ends that have a line between them, and those of the star with itself, cannot go together beyond some number.
        net = plain_net("pabcd", [("p", end, 2) for end in "abcd"] + [("a", "b", 1), ("c", "d", 1)])
        for k in (2, 3):
            self.assertTrue(keeps_by_sides(self.hold(net, "p", k), k, "p"))
        star = plain_net(TWELVE, [("a", end, 6) for end in TWELVE[1:]])
        for k in range(2, 7):
            self.assertTrue(keeps_by_sides(self.hold(star, "a", k), k, "a"))

    def test_great_strengths(self):
        great = 10 ** 9
        pairs = list(itertools.combinations(TWELVE, 2))
        nets = [plain_net(TWELVE, [pair + (great - 2 * at,) for at, pair in enumerate(pairs)]),
                plain_net(TWELVE, [pair + (great if "a" in pair else 1,) for pair in pairs]),
                plain_net(TWELVE, [("a", end, great - 1) for end in TWELVE[1:-1]]
                          + [(one, other, 3) for one, other in zip(TWELVE[1:], TWELVE[2:] + ["b"])])]
        for net in nets:
            for k in (2, 6):
                self.assertTrue(keeps_by_sides(self.hold(net, "a", k), k, "a"))

    def test_equal_nets_are_cleared_alike(self):
        for net in itertools.chain(drawn_strong(70), drawn_nets(26)):
            for place in net:
                if refusal_of(cleared_by, net, place, 2) is None:
                    told = [[(each.one, each.other, each.many) for each in cleared_by(asked, place, 2)]
                            for asked in (net, net, turned(net))]
                    self.assertEqual(told[0], told[1])
                    self.assertEqual(told[0], told[2])

    def test_what_is_not_bearable_stays_so(self):
        for net in drawn_strong(70):
            for place in mixed(net)[:2]:
                ends = [pair for pair in ends_at(net, place) if most_bearable(net, place, pair[0], pair[1], 2) == 0]
                if ends and refusal_of(cleared_by, net, place, 2) is None:
                    rest = net
                    for exchange in cleared_by(net, place, 2):
                        rest = exchange.done(rest)
                        for one, other in ends:
                            self.assertEqual(most_bearable(rest, place, one, other, 2), 0)


class ClearedRefusals(unittest.TestCase):
    def test_no_place(self):
        for text in ("q", "", "P", "p ", "pp", "a\n", "abcdefghi"):
            for k in (2, 6):
                refuses(self, NoPlace, (text,), cleared_by, TOWN, text, k)
        refuses(self, NoPlace, ("p",), cleared_by, {}, "p", 2)

    def test_odd(self):
        net = plain_net("pab", [("p", "a", 2), ("p", "b", 3), ("a", "b", 6)])
        refuses(self, Odd, ("p",), cleared_by, net, "p", 2)
        refuses(self, Odd, ("b",), cleared_by, net, "b", 2)
        refuses(self, Odd, ("a",), cleared_by, plain_net("pa", [("a", "p", 10 ** 9 - 1)]), "a", 6)

    def test_odd_goes_ahead_of_too_weak(self):
        net = plain_net("pabc", [("p", "a", 2), ("p", "b", 3)])
        refuses(self, Odd, ("p",), cleared_by, net, "p", 2)
        refuses_with_side(self, TooWeak, ["a", "b", "p"], cleared_by, put_to(net, [("p", "b", 1)]), "p", 2)

    def test_too_weak_with_the_side_of_the_first_two(self):
        net = plain_net("pabcd", [("p", "c", 2), ("c", "d", 1), ("p", "a", 2), ("a", "b", 2)])
        refuses_with_side(self, TooWeak, ["a", "b", "c", "p"], cleared_by, net, "p", 2)
        for k in (3, 4, 5, 6):
            refuses_with_side(self, TooWeak, ["a", "c", "d", "p"], cleared_by, net, "p", k)
        net = plain_net("pabcd", [("p", "c", 2), ("c", "d", 1), ("p", "a", 4), ("a", "b", 4)])
        refuses_with_side(self, TooWeak, ["a", "b", "p"], cleared_by, net, "p", 3)

    def test_routes_through_the_place_count(self):
        net = plain_net("pab", [("p", "a", 2), ("p", "b", 2)])
        self.assertIsNone(refusal_of(cleared_by, net, "p", 2))
        refuses_with_side(self, TooWeak, ["a"], cleared_by, net, "p", 3)

    def test_the_place_itself_is_not_too_weak(self):
        net = plain_net("pab", [("p", "a", 2), ("a", "b", 6)])
        self.assertIsNone(refusal_of(cleared_by, net, "p", 6))
        self.assertIsNone(refusal_of(cleared_by, plain_net("pab", [("a", "b", 6)]), "p", 6))

    def test_the_first_refusal_that_is_due(self):
        for net in itertools.chain(small_nets(), drawn_strong(70)):
            for place in net:
                for k in (2, 3, 6):
                    weak = first_weak_side(net, [other for other in net if other != place], k)
                    if sum(net[place].values()) % 2 == 1:
                        refuses(self, Odd, (place,), cleared_by, net, place, k)
                    elif weak is not None:
                        refuses_with_side(self, TooWeak, weak, cleared_by, net, place, k)


if __name__ == "__main__":
    unittest.main()
