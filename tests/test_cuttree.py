"""Trees of cuts: points 31 to 37."""

import copy
import itertools
import unittest

from spareline.cuttree import cut_tree, held_by, is_cut_tree, least_on, way_on
from spareline.routes import most_between
from tests.helper import (LETTERS, TWELVE, all_between, bare_lines, drawn_nets, groups_by_joining, leaving, mixed,
                          plain_net, small_nets, turned)

GREAT = 10 ** 12
# A ring with all strengths equal: its trees of cuts are many.
RING = plain_net("abcde", [("a", "b", 2), ("b", "c", 2), ("c", "d", 2), ("d", "e", 2), ("a", "e", 2)])
GROUPED = plain_net("abcdefg", [("a", "c", 3), ("c", "e", 4), ("a", "e", 1), ("b", "d", 10 ** 9), ("d", "g", 2)])


def equal_nets():
    """Nets of which all strengths are equal: thick ones, rings, stars and chains, of two to seven places."""
    for many in range(2, 8):
        places = mixed(LETTERS[:many], many)
        yield plain_net(places, [pair + (3,) for pair in itertools.combinations(places, 2)])
        yield plain_net(places, [(places[at - 1], places[at], 1) for at in range(many) if many > 2 or at])
        yield plain_net(places, [(places[0], place, 10 ** 9) for place in places[1:]])
        yield plain_net(places, [(one, other, 5) for one, other in zip(places, places[1:])])


def asked_nets():
    yield from small_nets()
    yield from equal_nets()
    yield from (RING, GROUPED)
    yield from drawn_nets(52)


def ends_of(tree, left_out=None):
    """Each place of a tree with the places to which its pairs, but for one, lead at once."""
    ends = {}
    for at, (one, other, amount, side) in enumerate(tree):
        ends.setdefault(one, [])
        ends.setdefault(other, [])
        if at != left_out:
            ends[one].append(other)
            ends[other].append(one)
    return ends


def led_to(ends, place):
    """All places to which pairs lead from a place, each with the way there."""
    ways = {place: [place]}
    for turn in ends:
        for here in list(ways):
            for there in ends.get(here, []):
                ways.setdefault(there, ways[here] + [there])
    return ways


def is_tree_by_hand(net, tree, between):
    """Whether a list is a tree of cuts as point 32 tells, by what goes between places as found by all sides."""
    if len(tree) != (len(net) - 1 if net else 0):
        return False
    if any(one not in net or other not in net or not one < other for one, other, amount, side in tree):
        return False
    if tree and any(sorted(led_to(ends_of(tree), place)) != sorted(net) for place in net):
        return False
    for at, (one, other, amount, side) in enumerate(tree):
        if side != sorted(led_to(ends_of(tree, at), one)):
            return False
        if amount != leaving(net, side) or amount != between[one, other]:
            return False
    return True


def grown_trees(places):
    """All ways to join places by pairs, one pair less than places; some of them are no trees."""
    return itertools.combinations(itertools.combinations(sorted(places), 2), max(0, len(places) - 1))


def sided(net, pairs):
    """Tuples of pairs, with the sides that the pairs make and their crossings."""
    bare = [(one, other, 0, []) for one, other in pairs]
    tree = []
    for at, (one, other) in enumerate(pairs):
        side = sorted(led_to(ends_of(bare, at), one))
        tree.append((one, other, leaving(net, side), side))
    return tree


class Trees(unittest.TestCase):
    def test_no_places_and_one_place(self):
        self.assertEqual(cut_tree({}), [])
        self.assertEqual(cut_tree({"a": {}}), [])

    def test_two_places(self):
        self.assertEqual(cut_tree({"b": {}, "a": {}}), [("a", "b", 0, ["a"])])
        for strength in (1, 7, 10 ** 9):
            self.assertEqual(cut_tree(plain_net("ba", [("b", "a", strength)])), [("a", "b", strength, ["a"])])

    def test_a_chain_is_its_own_tree(self):
        net = plain_net(["owl", "elk", "fox"], [("owl", "elk", 12), ("elk", "fox", 3)])
        self.assertEqual(cut_tree(net), [("elk", "fox", 3, ["elk", "owl"]), ("elk", "owl", 12, ["elk", "fox"])])

    def test_each_tree_is_one(self):
        for net in asked_nets():
            between = all_between(net)
            tree = cut_tree(net)
            self.assertTrue(is_tree_by_hand(net, tree, between), (net, tree))

    def test_kinds_and_order(self):
        for net in asked_nets():
            tree = cut_tree(net)
            self.assertIs(type(tree), list)
            self.assertEqual(tree, sorted(tree))
            for cut in tree:
                self.assertIs(type(cut), tuple)
                self.assertEqual([type(part) for part in cut], [str, str, int, list])

    def test_the_least_on_the_way_is_what_goes(self):
        for net in asked_nets():
            between = all_between(net)
            tree = cut_tree(net)
            amounts = {frozenset(cut[:2]): cut[2] for cut in tree}
            for one, other in itertools.permutations(net, 2):
                way = led_to(ends_of(tree), one)[other]
                least = min(amounts[frozenset(pair)] for pair in zip(way, way[1:]))
                self.assertEqual(least, between[one, other])
                self.assertEqual(most_between(net, one, other), least)

    def test_the_same_tree_for_equal_nets(self):
        for turn, net in enumerate(asked_nets()):
            other_net = {place: dict(mixed(net[place].items(), turn)) for place in mixed(net, turn)}
            self.assertEqual(cut_tree(turned(net)), cut_tree(net))
            self.assertEqual(cut_tree(other_net), cut_tree(net))

    def test_several_groups(self):
        tree = cut_tree(GROUPED)
        self.assertEqual([cut[2] for cut in tree].count(0), 2)
        self.assertEqual(sorted(cut[2] for cut in tree), [0, 0, 2, 4, 5, 10 ** 9])

    def test_somewhat_beyond_the_bounds(self):
        places = LETTERS[:14]
        net = plain_net(places, [pair + (10 ** 10 + len(pair[0]),) for pair in itertools.combinations(places, 2)])
        tree = cut_tree(net)
        self.assertEqual(len(tree), 13)
        self.assertIs(is_cut_tree(net, tree), True)


def tree_nets():
    """Nets that are trees, each with a tree of cuts made of its own lines, amounts to 10 ** 12."""
    for turn in range(60):
        places = mixed(TWELVE, turn)[:2 + turn % 11]
        amounts = ((4,), (1, 2), (1, 5, GREAT), (GREAT, GREAT - 1))[turn % 4]
        lines = [(mixed(places[:at], at + turn)[0], places[at], mixed(amounts, at * turn)[0])
                 for at in range(1, len(places))]
        net = plain_net(places, lines)
        yield net, sided(net, bare_lines(net))


def asked_trees():
    for turn, net in enumerate(asked_nets()):
        if len(net) > 1:
            yield mixed(cut_tree(net), turn)
    for net, tree in tree_nets():
        yield mixed(tree)


class Ways(unittest.TestCase):
    def test_an_ordinary_tree(self):
        tree = [("b", "c", 4, ["a", "b"]), ("c", "d", 9, ["a", "b", "c"]), ("a", "b", 4, ["a"])]
        self.assertEqual(way_on(tree, "a", "d"), ["a", "b", "c", "d"])
        self.assertEqual(way_on(tree, "d", "b"), ["d", "c", "b"])
        self.assertEqual(way_on(tree, "c", "b"), ["c", "b"])
        self.assertEqual(least_on(tree, "a", "d"), (4, ["a"]))
        self.assertEqual(least_on(tree, "d", "a"), (4, ["c", "d"]))
        self.assertEqual(least_on(tree, "d", "b"), (4, ["c", "d"]))
        self.assertEqual(least_on(tree, "c", "d"), (9, ["a", "b", "c"]))
        self.assertEqual(least_on(tree, "d", "c"), (9, ["d"]))

    def test_one_tuple(self):
        tree = [("a", "b", 0, ["a"])]
        self.assertEqual(way_on(tree, "a", "b"), ["a", "b"])
        self.assertEqual(way_on(tree, "b", "a"), ["b", "a"])
        self.assertEqual(least_on(tree, "a", "b"), (0, ["a"]))
        self.assertEqual(least_on(tree, "b", "a"), (0, ["b"]))

    def test_ways_from_either_end(self):
        for tree in asked_trees():
            ends = ends_of(tree)
            for one in ends:
                ways = led_to(ends, one)
                for other in ends:
                    if one != other:
                        self.assertEqual(way_on(tree, one, other), ways[other])
                        self.assertEqual(way_on(tree, other, one), ways[other][::-1])

    def test_the_least_that_is_passed_first(self):
        for tree in asked_trees():
            ends = ends_of(tree)
            cuts = {frozenset(cut[:2]): cut for cut in tree}
            for one, other in itertools.permutations(ends, 2):
                way = led_to(ends, one)[other]
                passed = [cuts[frozenset(pair)] for pair in zip(way, way[1:])]
                amounts = [cut[2] for cut in passed]
                first = passed[amounts.index(min(amounts))]
                side = first[3] if one in first[3] else sorted(set(ends) - set(first[3]))
                told = least_on(tree, one, other)
                self.assertIs(type(told), tuple)
                self.assertEqual(told, (min(amounts), side))
                self.assertTrue(one in told[1] and other not in told[1])

    def test_the_order_of_tuples_changes_nothing(self):
        tree = cut_tree(RING)
        for order in itertools.permutations(tree):
            for one, other in itertools.permutations(RING, 2):
                self.assertEqual(way_on(list(order), one, other), way_on(tree, one, other))
                self.assertEqual(least_on(list(order), one, other), least_on(tree, one, other))

    def test_the_side_is_that_of_the_net(self):
        for net in asked_nets():
            tree = cut_tree(net)
            for one, other in itertools.permutations(net, 2):
                amount, side = least_on(tree, one, other)
                self.assertEqual(amount, most_between(net, one, other))
                self.assertEqual(leaving(net, side), amount)


def bent_trees(net, tree):
    """A tree with one thing bent."""
    yield tree + [("a", "b", 0, ["a"])]
    yield tree + [("no", "yes", 1, ["no"])]
    yield tree + [("", "", 0, [])]
    for at, cut in enumerate(tree):
        ahead, behind = tree[:at], tree[at + 1:]
        yield ahead + behind
        yield ahead + [cut, copy.deepcopy(cut)] + behind
        for second in tree:
            yield ahead + [copy.deepcopy(second)] + behind
        for near in bent_cuts(net, cut):
            yield ahead + [near] + behind


def bent_cuts(net, cut):
    one, other, amount, side = cut
    rest = [place for place in sorted(net) if place not in side]
    yield (other, one, amount, side)
    yield (other, one, amount, rest)
    yield (one, other, amount, rest)
    for number in (amount + 1, amount - 1, -amount, 0, GREAT):
        yield (one, other, number, side)
    for near in (side[::-1], side + side, [], sorted(net), side[1:], side[:-1], side + rest[:1],
                 sorted(side + rest[:1]), side + ["no"], sorted(side + [""])):
        yield (one, other, amount, near)
    for text in sorted(net) + ["no", "", "A"]:
        yield (text, other, amount, side)
        yield (one, text, amount, side)
        yield (text, other, amount, [text if place == one else place for place in side])
        # The pair may lie otherwise and part the same places: then it may still be a tree of cuts.
        yield (min(one, text), max(one, text), amount, side)
        yield (min(other, text), max(other, text), amount, side)
        yield (min(other, text), max(other, text), amount, rest)


class TreesShown(unittest.TestCase):
    def hold(self, net, tree, between):
        told = is_cut_tree(net, tree)
        self.assertIs(told, is_tree_by_hand(net, tree, between), (net, tree))
        return told

    def test_what_was_told_is_true_in_any_order(self):
        for turn, net in enumerate(asked_nets()):
            self.assertIs(is_cut_tree(net, cut_tree(net)), True)
            self.assertIs(is_cut_tree(turned(net), mixed(cut_tree(net), turn)), True)

    def test_nets_that_are_trees(self):
        for net, tree in tree_nets():
            self.assertIs(is_cut_tree(net, tree), True)
            self.assertIs(is_cut_tree(net, tree[::-1]), True)

    def test_no_places_and_one_place(self):
        for net in ({}, {"a": {}}):
            self.assertIs(is_cut_tree(net, []), True)
            for cut in (("a", "a", 0, ["a"]), ("a", "b", 0, ["a"]), ("", "a", 0, [])):
                self.assertIs(is_cut_tree(net, [cut]), False)

    def test_two_places(self):
        net = plain_net("ab", [("a", "b", 3)])
        self.assertIs(is_cut_tree(net, [("a", "b", 3, ["a"])]), True)
        for tree in ([], [("a", "b", 3, ["b"])], [("b", "a", 3, ["b"])], [("b", "a", 3, ["a"])], [("a", "b", 2, ["a"])],
                     [("a", "b", 3, [])], [("a", "b", 3, ["a", "b"])], [("a", "b", 3, ["a"])] * 2,
                     [("a", "a", 0, ["a"])], [("a", "c", 3, ["a"])]):
            self.assertIs(is_cut_tree(net, tree), False)

    def test_pairs_that_go_round_and_leave_a_place_out(self):
        net = plain_net("abcd", [("a", "b", 1), ("b", "c", 1), ("a", "c", 1)])
        tree = [("a", "b", 2, ["a"]), ("a", "c", 2, ["a"]), ("b", "c", 2, ["b"])]
        self.assertIs(is_cut_tree(net, tree), False)

    def test_a_crossing_that_is_not_what_goes(self):
        """Each amount is the crossing of its side, but that of one side is more than what goes."""
        net = plain_net("abcd", [("a", "b", 1), ("b", "c", 1), ("c", "d", 1)])
        tree = sided(net, [("a", "c"), ("b", "c"), ("c", "d")])
        self.assertEqual(tree[1], ("b", "c", 2, ["b"]))
        self.assertIs(is_cut_tree(net, tree), False)
        tree[1] = ("b", "c", 1, ["b"])
        self.assertIs(is_cut_tree(net, tree), False)

    def test_all_pairs_that_join_the_places_of_small_nets(self):
        told = []
        for net in list(small_nets()) + [RING]:
            between = all_between(net)
            for pairs in grown_trees(net):
                tree = sided(net, pairs)
                told.append(self.hold(net, tree, between))
                # With what goes between the two in the place of the crossing, too.
                self.hold(net, [(one, other, between[one, other], side) for one, other, amount, side in tree], between)
        self.assertGreater(told.count(True), 1000)
        self.assertGreater(told.count(False), 1000)

    def test_one_thing_bent(self):
        told = []
        for net in list(small_nets())[::7] + [RING, GROUPED] + list(drawn_nets(13)):
            between = all_between(net)
            for tree in bent_trees(net, cut_tree(net)):
                told.append(self.hold(net, tree, between))
        self.assertGreater(told.count(False), 1000)
        self.assertGreater(told.count(True), 100)


class HeldBy(unittest.TestCase):
    def hold(self, net, between, k):
        joined = {one: {other: 1 for other in net if other != one and between[one, other] >= k} for one in net}
        told = held_by(net, k)
        self.assertEqual(told, groups_by_joining(joined), (net, k))
        for group in told:
            self.assertTrue(all(between[pair] >= k for pair in itertools.combinations(group, 2)))

    def test_no_places_and_one_place(self):
        for k in (1, 2, 6, GREAT):
            self.assertEqual(held_by({}, k), [])
            self.assertEqual(held_by({"elk": {}}, k), [["elk"]])

    def test_an_ordinary_net(self):
        self.assertEqual(held_by(GROUPED, 1), [["a", "c", "e"], ["b", "d", "g"], ["f"]])
        self.assertEqual(held_by(GROUPED, 3), [["a", "c", "e"], ["b", "d"], ["f"], ["g"]])
        self.assertEqual(held_by(GROUPED, 5), [["a"], ["b", "d"], ["c", "e"], ["f"], ["g"]])
        self.assertEqual(held_by(GROUPED, 6), [["a"], ["b", "d"], ["c"], ["e"], ["f"], ["g"]])
        self.assertEqual(held_by(GROUPED, 10 ** 9 + 1), [[place] for place in "abcdefg"])

    def test_amounts_of_the_tree_and_one_more(self):
        for net in asked_nets():
            between = all_between(net)
            for amount in sorted(set(between.values()) | {1, GREAT}):
                for k in (amount - 1, amount, amount + 1):
                    if 1 <= k <= GREAT:
                        self.hold(net, between, k)

    def test_by_one_they_are_the_groups_of_the_net(self):
        for net in asked_nets():
            self.assertEqual(held_by(net, 1), groups_by_joining(net))

    def test_equal_nets(self):
        for net in asked_nets():
            for k in (1, 2, 8, 10 ** 9):
                self.assertEqual(held_by(turned(net), k), held_by(net, k))

    def test_great_strengths(self):
        net = plain_net("abc", [("a", "c", GREAT), ("a", "b", GREAT - 1)])
        self.assertEqual(held_by(net, GREAT), [["a", "c"], ["b"]])
        self.assertEqual(held_by(net, GREAT - 1), [["a", "b", "c"]])


if __name__ == "__main__":
    unittest.main()
