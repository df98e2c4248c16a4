"""One-way plans: points 71 to 75, and of point 7 that a net with 2 * k routes has a plan for k."""

import copy
import itertools
import random
import unittest

from spareline.errors import TooWeak
from spareline.oneway import is_one_way, keeps_each_way, one_way
from tests.helper import (TWELVE, drawn_arcs, drawn_nets, drawn_strong, first_weak_side, keeps_by_sides, leaving, mixed,
                          plain_net, put_to, refusal_of, refuses_with_side, ring_of, shape_of, sides_of, small_nets,
                          turned)


def keeps_by_leaving(arcs, k):
    return all(leaving(arcs, side) >= k for side in sides_of(arcs) if 0 < len(side) < len(arcs))


def is_plan_by_sums(net, arcs):
    if set(net) != set(arcs):
        return False
    return all(arcs[one].get(other, 0) + arcs[other].get(one, 0) == net[one].get(other, 0)
               for one, other in itertools.combinations(net, 2))


def split_nets(many):
    """Nets with arcs that part each of their lines by chance, nought often told and often not."""
    draw = random.Random(71)
    for net in itertools.chain(drawn_nets(many), drawn_strong(many)):
        arcs = {place: {} for place in mixed(net, 3)}
        for one, other in itertools.combinations(net, 2):
            strength = net[one].get(other, 0)
            forth = draw.choice((0, strength, draw.randint(0, strength)))
            for here, there, number in ((one, other, forth), (other, one, strength - forth)):
                if number or draw.randrange(4) == 0:
                    arcs[here][there] = number
        yield net, arcs


class IsOneWay(unittest.TestCase):
    def told(self, net, arcs):
        ahead = shape_of((net, arcs))
        told = is_one_way(net, arcs)
        self.assertIs(type(told), bool)
        self.assertEqual(shape_of((net, arcs)), ahead)
        return told

    def test_ordinary_arcs(self):
        net = plain_net("abc", [("a", "b", 3), ("b", "c", 2)])
        self.assertTrue(self.told(net, {"a": {"b": 3}, "b": {"c": 2}, "c": {}}))
        self.assertTrue(self.told(net, {"a": {"b": 1}, "b": {"a": 2, "c": 1}, "c": {"b": 1}}))
        self.assertTrue(self.told(net, {"c": {"b": 2, "a": 0}, "b": {"a": 3, "c": 0}, "a": {"b": 0}}))
        self.assertFalse(self.told(net, net))
        self.assertFalse(self.told(net, {"a": {"b": 3}, "b": {"c": 1}, "c": {}}))
        self.assertFalse(self.told(net, {"a": {"b": 3}, "b": {"c": 3}, "c": {}}))
        self.assertFalse(self.told(net, {"a": {"b": 3}, "b": {}, "c": {}}))
        self.assertFalse(self.told(net, {"a": {"b": 3, "c": 1}, "b": {"c": 2}, "c": {}}))
        self.assertFalse(self.told(net, {"a": {"b": 3}, "b": {"c": 2}, "c": {"a": 1}}))
        self.assertFalse(self.told(net, {"a": {"b": 3}, "b": {"a": 3, "c": 2}, "c": {}}))

    def test_places_left_out_and_put_in(self):
        net = plain_net("abc", [("a", "b", 3)])
        self.assertTrue(self.told(net, {"a": {"b": 3}, "b": {}, "c": {}}))
        self.assertFalse(self.told(net, {"a": {"b": 3}, "b": {}}))
        self.assertFalse(self.told(net, {"a": {"b": 3}, "b": {}, "c": {}, "d": {}}))
        self.assertFalse(self.told(net, {"a": {"b": 3}, "b": {}, "d": {}}))
        self.assertFalse(self.told(net, {}))

    def test_none_and_one_place(self):
        self.assertTrue(self.told({}, {}))
        self.assertTrue(self.told({"a": {}}, {"a": {}}))
        self.assertFalse(self.told({}, {"a": {}}))
        self.assertFalse(self.told({"a": {}}, {}))
        self.assertFalse(self.told({"a": {}}, {"b": {}}))

    def test_sums_reckoned_by_hand(self):
        judged = {True: 0, False: 0}
        for turn, (net, arcs) in enumerate(split_nets(104)):
            self.assertTrue(self.told(net, arcs), (net, arcs))
            self.assertTrue(self.told(turned(net), turned(arcs)))
            for bent in self.bent(arcs, turn):
                asked = is_plan_by_sums(net, bent)
                judged[asked] += 1
                self.assertEqual(self.told(net, bent), asked, (net, bent))
        self.assertGreater(min(judged.values()), 10, judged)

    def bent(self, arcs, turn):
        """The arcs with one thing changed."""
        for here, there in mixed(itertools.permutations(arcs, 2), turn)[:4]:
            for more in (1, -1, 10 ** 12):
                bent = copy.deepcopy(arcs)
                bent[here][there] = max(0, bent[here].get(there, 0) + more)
                yield bent
            bent = copy.deepcopy(arcs)
            bent[here].pop(there, None)
            yield bent
        bent = copy.deepcopy(arcs)
        bent["new"] = {}
        yield bent
        for place in list(arcs)[:1]:
            yield {here: {there: number for there, number in arcs[here].items() if there != place}
                   for here in arcs if here != place}

    def test_arcs_of_another_net(self):
        for arcs in drawn_arcs(60):
            net = plain_net(arcs, [])
            self.assertEqual(self.told(net, arcs), not any(sum(arcs[place].values()) for place in arcs))


class KeepsEachWay(unittest.TestCase):
    def told(self, arcs, k):
        ahead = shape_of(arcs)
        told = keeps_each_way(arcs, k)
        self.assertIs(type(told), bool)
        self.assertEqual(shape_of(arcs), ahead)
        return told

    def test_none_and_one_place(self):
        for k in (1, 2, 3, 10 ** 12):
            self.assertTrue(self.told({}, k))
            self.assertTrue(self.told({"a": {}}, k))

    def test_ordinary_arcs(self):
        round_way = {"a": {"b": 2}, "b": {"c": 2}, "c": {"a": 2}}
        self.assertTrue(self.told(round_way, 1))
        self.assertTrue(self.told(round_way, 2))
        self.assertFalse(self.told(round_way, 3))
        self.assertFalse(self.told({"a": {"b": 2}, "b": {"c": 2}, "c": {}}, 1))
        self.assertFalse(self.told({"a": {}, "b": {}}, 1))
        self.assertFalse(self.told({"a": {"b": 0}, "b": {"a": 9}}, 1))
        self.assertFalse(self.told({"a": {"b": 9}, "b": {"a": 0}}, 1))

    def test_each_way_of_each_place_counts(self):
        """In arcs that keep 3 all ways of one place are weakened in turn, out of it and into it."""
        arcs = {here: {there: 1 for there in "abcd" if there != here} for here in "abcd"}
        self.assertTrue(self.told(arcs, 3))
        for here, there in itertools.permutations("abcd", 2):
            weak = copy.deepcopy(arcs)
            weak[here][there] = 0
            self.assertFalse(self.told(weak, 3), (here, there))
            self.assertTrue(self.told(weak, 2))
            weak[here].pop(there)
            self.assertFalse(self.told(weak, 3), (here, there))

    def test_all_sides_tried(self):
        judged = {True: 0, False: 0}
        nets = list(drawn_strong(70)) + [arcs for net, arcs in split_nets(35) if len(net) < 8]
        for arcs in itertools.chain(drawn_arcs(300), nets):
            for k in (1, 2, 3):
                asked = keeps_by_leaving(arcs, k)
                judged[asked] += 1
                self.assertEqual(self.told(arcs, k), asked, (arcs, k))
                self.assertEqual(self.told(turned(arcs), k), asked)
        self.assertGreater(min(judged.values()), 100, judged)


class OneWay(unittest.TestCase):
    def hold(self, net, k):
        ahead = shape_of(net)
        plan = one_way(net, k)
        self.assertEqual(shape_of(net), ahead)
        self.assertIs(type(plan), dict)
        self.assertEqual(sorted(plan), sorted(net))
        for here in plan:
            self.assertIs(type(plan[here]), dict)
            for there, number in plan[here].items():
                self.assertIs(type(number), int)
                self.assertGreaterEqual(number, 1)
                self.assertIn(there, net[here])
        self.assertTrue(is_plan_by_sums(net, plan), (net, k, plan))
        self.assertTrue(keeps_by_leaving(plan, k), (net, k, plan))
        self.assertIs(is_one_way(net, plan), True)
        self.assertIs(keeps_each_way(plan, k), True)
        self.assertEqual(one_way(turned(net), k), plan)

    def test_none_and_one_place(self):
        for k in (1, 2, 3):
            self.assertEqual(one_way({}, k), {})
            self.assertEqual(one_way({"a": {}}, k), {"a": {}})

    def test_two_places(self):
        for k in (1, 2, 3):
            self.assertEqual(one_way(plain_net("ab", [("a", "b", 2 * k)]), k), {"a": {"b": k}, "b": {"a": k}})
            for strength in (2 * k + 1, 2 * k + 2, 10 ** 9):
                self.hold(plain_net("ab", [("a", "b", strength)]), k)

    def test_rings_and_thick_nets(self):
        for many in range(3, 13):
            places = mixed(TWELVE[:many], many)
            for k in (1, 2, 3):
                self.hold(plain_net(places, [line[:2] + (k,) for line in ring_of(places)]), k)
                self.hold(plain_net(places, [line[:2] + (2 * k,) for line in ring_of(places)[1:]]), k)
                self.hold(plain_net(places, [(places[0], end, 2 * k + 1) for end in places[1:]]), k)
                if many > 2 * k:
                    self.hold(plain_net(places, [pair + (1,) for pair in itertools.combinations(places, 2)]), k)

    def test_places_with_odd_crossings(self):
        # Every place of these has an odd crossing, so no plan has as much out of each place as into it.
        self.hold(plain_net("abcd", [pair + (1,) for pair in itertools.combinations("abcd", 2)]), 1)
        self.hold(plain_net("abcdef", [pair + (1,) for pair in itertools.combinations("abcdef", 2)]), 2)
        places = TWELVE[:8]
        self.hold(plain_net(places, [pair + (1,) for pair in itertools.combinations(places, 2)]), 3)
        rungs = [(places[at], places[at + 4], 1) for at in range(4)]
        self.hold(plain_net(places, ring_of(places[:4]) + ring_of(places[4:]) + rungs), 1)

    def test_many_nets(self):
        planned = {1: 0, 2: 0, 3: 0}
        for net in itertools.chain(small_nets(), drawn_strong(350), drawn_nets(65)):
            for k in (1, 2, 3):
                if keeps_by_sides(net, 2 * k):
                    self.hold(net, k)
                    planned[k] += len(net) > 2
                else:
                    self.assertIs(type(refusal_of(one_way, net, k)), TooWeak, (net, k))
        self.assertGreater(min(planned.values()), 60, planned)

    def test_great_strengths(self):
        great = 10 ** 9
        pairs = list(itertools.combinations(TWELVE, 2))
        for net in (plain_net(TWELVE, [pair + (great - at,) for at, pair in enumerate(pairs)]),
                    plain_net(TWELVE, [pair + (great if "a" in pair else 1,) for pair in pairs]),
                    plain_net(TWELVE, [line[:2] + (great,) for line in ring_of(TWELVE)])):
            for k in (1, 3):
                self.hold(net, k)

    def test_twice_k_is_enough_and_one_less_is_not(self):
        for k in (1, 2, 3):
            for places in (list("abc"), list("abcdefgh")):
                net = plain_net(places, [line[:2] + (2 * k,) for line in ring_of(places)[1:]])
                self.hold(net, k)
                one, other = places[1], places[2]
                self.assertIs(type(refusal_of(one_way, put_to(net, [(one, other, -1)]), k)), TooWeak)


class TooWeakForAPlan(unittest.TestCase):
    def test_ordinary_nets(self):
        net = plain_net("abcd", [("a", "b", 4), ("b", "c", 3), ("c", "d", 2)])
        self.assertIsNone(refusal_of(one_way, net, 1))
        refuses_with_side(self, TooWeak, ["a", "b"], one_way, net, 2)
        refuses_with_side(self, TooWeak, ["a"], one_way, net, 3)
        refuses_with_side(self, TooWeak, ["a"], one_way, {"b": {}, "a": {}}, 1)
        refuses_with_side(self, TooWeak, ["a", "c"], one_way, plain_net("abc", [("a", "c", 9)]), 1)
        refuses_with_side(self, TooWeak, ["a"], one_way, plain_net("ab", [("a", "b", 1)]), 1)

    def test_the_side_of_the_first_two_places(self):
        refused = 0
        for net in itertools.chain(small_nets(), drawn_strong(210), drawn_nets(39)):
            for k in (1, 2, 3):
                side = first_weak_side(net, net, 2 * k)
                if side is not None:
                    refuses_with_side(self, TooWeak, side, one_way, net, k)
                    self.assertLess(leaving(net, side), 2 * k)
                    refused += 1
        self.assertGreater(refused, 500)

    def test_no_plan_of_such_a_net_keeps_k(self):
        for net in (plain_net("abc", [("a", "b", 3), ("b", "c", 3)]),
                    plain_net("abc", [("a", "b", 1), ("b", "c", 2), ("a", "c", 2)])):
            lines = [(one, other, net[one][other]) for one, other in itertools.combinations("abc", 2)
                     if other in net[one]]
            for forth in itertools.product(*[range(strength + 1) for one, other, strength in lines]):
                arcs = {place: {} for place in "abc"}
                for (one, other, strength), number in zip(lines, forth):
                    arcs[one][other] = number
                    arcs[other][one] = strength - number
                self.assertTrue(is_one_way(net, arcs))
                self.assertFalse(keeps_each_way(arcs, 2))
            self.assertIs(type(refusal_of(one_way, net, 2)), TooWeak)


if __name__ == "__main__":
    unittest.main()
