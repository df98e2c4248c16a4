"""Trees that share no strand, and the parting that shows that there are no more: points 81 to 84."""

import copy
import itertools
import unittest

from spareline.forests import are_all_trees, parting_of, trees_in
from spareline.texts import read_net
from tests.helper import (LETTERS, TOWN, TWELVE, all_nets_of_five, bare_lines, between_groups, drawn_nets,
                          drawn_strong, full_net, hold_parting, hold_trees, join_all, most_trees, plain_net, ring_of,
                          round_nets, small_nets, turned)

EACH_MOST = (1, 2, 3, 4, 5)


def small_and_drawn():
    """Nets of up to six places, all of whose partings can be tried."""
    return itertools.chain(small_nets(), all_nets_of_five(), drawn_strong(140, 6))


def great_nets():
    """Nets of up to twelve places, of one group and of several."""
    yield from round_nets()
    yield from drawn_nets(65)
    yield from drawn_strong(65, 12)
    for strength in (1, 2, 5, 10 ** 9):
        yield full_net(TWELVE, strength)
        yield plain_net(TWELVE, [line[:2] + (strength,) for line in ring_of(TWELVE)])
        yield plain_net(TWELVE, [(one, other, strength) for one in "abcdef" for other in "ghijkl"])


class Trees(unittest.TestCase):
    def hold(self, net, most, many):
        trees = trees_in(net, most)
        hold_trees(self, net, trees)
        self.assertEqual(len(trees), most if many is None else min(most, many), (net, most))

    def test_as_many_as_all_partings_leave(self):
        for net in small_and_drawn():
            many = most_trees(net)
            for most in EACH_MOST:
                self.hold(net, most, many)

    def test_no_place_and_one_place(self):
        for net in ({}, {"a": {}}, {"zzzzzzzz": {}}):
            for most in EACH_MOST:
                self.assertEqual(trees_in(net, most), [[]] * most)
                self.assertIsNone(parting_of(net, most))

    def test_two_places(self):
        for strength, most in itertools.product((1, 2, 3, 4, 5, 6, 10 ** 9), EACH_MOST):
            net = plain_net(["owl", "elk"], [("owl", "elk", strength)])
            self.assertEqual(trees_in(net, most), [[("elk", "owl")]] * min(strength, most))

    def test_none_where_there_are_two_groups_or_more(self):
        nets = [plain_net("ab", []), plain_net(TWELVE, []), TOWN, full_net("abcde", 10 ** 9)]
        nets[-1]["f"] = {}
        for net, most in itertools.product(nets, EACH_MOST):
            self.assertEqual(trees_in(net, most), [])
            hold_parting(self, net, parting_of(net, most), 0)

    def test_nets_whose_number_is_known(self):
        for many in range(2, 13):
            # Of n places each two of which have a line: n less one lines for each tree, of n * (n - 1) // 2 in all.
            self.hold(full_net(LETTERS[:many], 1), 5, many // 2)
            self.hold(full_net(LETTERS[:many], 2), 5, many)
        for strength in range(1, 7):
            ring = plain_net(TWELVE, [line[:2] + (strength,) for line in ring_of(TWELVE)])
            self.hold(ring, 5, 12 * strength // 11)
            chain = plain_net(TWELVE, [(one, other, strength) for one, other in zip(TWELVE, TWELVE[1:])])
            self.hold(chain, 5, strength)
        # Two thick halves with few lines between them, and one thin place at a thick net.
        halves = [line for half in ("abcdef", "ghijkl") for line in itertools.combinations(half, 2)]
        for many in range(1, 6):
            between = [(one, other, 1) for one, other in zip("abcdef"[:many], "ghijkl")]
            self.hold(plain_net(TWELVE, [line + (9,) for line in halves] + between), 5, many)
            thin = [(one, "l", 1) for one in "abcdefghijk"[:many]]
            self.hold(plain_net(TWELVE, [line + (1,) for line in itertools.combinations("abcdefghijk", 2)] + thin),
                      5, many)

    def test_a_line_serves_as_many_trees_as_its_strength(self):
        net = read_net("a: b 2, c 1\nb: c 1\nc:")
        self.assertEqual(sorted(trees_in(net, 5)), [[("a", "b"), ("a", "c")], [("a", "b"), ("b", "c")]])
        self.hold(read_net("a: b 1, c 2\nb: c 2\nc:"), 5, 2)
        self.hold(read_net("a: b 1, c 2\nb: c 3\nc:"), 5, 3)

    def test_great_nets(self):
        # By 83 a parting shows that there are no more; so none of these needs all partings tried.
        for net in great_nets():
            for most in EACH_MOST:
                trees = trees_in(net, most)
                hold_trees(self, net, trees)
                self.assertLessEqual(len(trees), most)
                if len(trees) < most:
                    hold_parting(self, net, parting_of(net, most), len(trees))

    def test_equal_nets(self):
        for net in great_nets():
            for most in EACH_MOST:
                self.assertEqual(trees_in(turned(net), most), trees_in(net, most))
                self.assertEqual(parting_of(turned(net), most), parting_of(net, most))


class Parting(unittest.TestCase):
    def test_told_just_where_fewer_are_told_than_most(self):
        for net in itertools.chain(small_and_drawn(), great_nets()):
            for most in EACH_MOST:
                groups = parting_of(net, most)
                many = len(trees_in(net, most))
                if many == most:
                    self.assertIsNone(groups, (net, most))
                else:
                    hold_parting(self, net, groups, many)

    def test_the_only_parting(self):
        self.assertEqual(parting_of(plain_net("ba", []), 1), [["a"], ["b"]])
        self.assertEqual(parting_of(plain_net("ba", [("a", "b", 4)]), 5), [["a"], ["b"]])
        self.assertIsNone(parting_of(plain_net("ba", [("a", "b", 5)]), 5))
        self.assertIsNone(parting_of(plain_net("ba", [("a", "b", 4)]), 4))
        thick = plain_net("dcba", [("a", "c", 9), ("b", "d", 9), ("c", "d", 2)])
        self.assertEqual(parting_of(thick, 3), [["a", "c"], ["b", "d"]])

    def test_lines_stronger_than_most(self):
        # What is beyond most in a line is not needed for the trees, but it counts between the groups.
        for strength in (2, 3, 5, 6, 10 ** 9):
            net = plain_net("abcd", [("a", "b", strength), ("b", "c", 1), ("c", "d", strength)])
            for most in EACH_MOST[1:]:
                self.assertEqual(len(trees_in(net, most)), 1)
                hold_parting(self, net, parting_of(net, most), 1)


def shows_by_words(net, most, trees, groups):
    """Point 84 word by word."""
    used = {}
    for tree in trees:
        for line in tree:
            if line not in bare_lines(net):
                return False
            used[line] = used.get(line, 0) + 1
        if any(not one < other for one, other in zip(tree, tree[1:])) or not join_all(net, tree):
            return False
    if any(many > net[one][other] for (one, other), many in used.items()):
        return False
    if len(trees) == most:
        return groups is None
    if len(trees) > most or groups is None or len(groups) < 2 or not all(groups):
        return False
    if sorted(place for group in groups for place in group) != sorted(net):
        return False
    return between_groups(net, groups) < (len(trees) + 1) * (len(groups) - 1)


def trees_changed(net, trees):
    yield trees + [[]]
    yield trees + trees[:1]
    yield [[]] + trees[1:]
    yield trees[1:]
    yield trees[:-1]
    yield trees[::-1]
    yield []
    for at, tree in enumerate(trees):
        for other in tree_changed(net, tree):
            yield trees[:at] + [other] + trees[at + 1:]


def tree_changed(net, tree):
    yield tree[::-1]
    yield tree + tree[-1:]
    yield tree[1:]
    yield tree + [("nowhere", "nowheres")]
    for at, line in enumerate(tree):
        yield tree[:at] + tree[at + 1:]
        yield tree[:at] + [line[::-1]] + tree[at + 1:]
        yield sorted(tree[:at] + [line[::-1]] + tree[at + 1:])
        yield sorted(tree[:at] + [(line[0], line[0])] + tree[at + 1:])
        yield sorted(tree[:at] + [("", "Q")] + tree[at + 1:])
        for other in bare_lines(net):
            yield sorted(tree[:at] + [other] + tree[at + 1:])
    for line in itertools.combinations(sorted(net), 2):
        yield sorted(tree + [line])


def groups_changed(net, groups):
    yield None
    if groups is None:
        yield []
        yield [sorted(net)]
        yield [[place] for place in sorted(net)]
        return
    yield groups[::-1]
    yield [group[::-1] for group in groups]
    yield [sum(groups, [])]
    yield [[place] for place in sorted(net)]
    yield [groups[0] + groups[1]] + groups[2:]
    yield groups + [[]]
    yield [[]] + groups
    yield groups + [["nowhere"]]
    yield groups[:-1] + [groups[-1] + ["A"]]
    yield []
    for at, group in enumerate(groups):
        yield groups[:at] + groups[at + 1:]
        yield groups[:at] + [group, group] + groups[at + 1:]
        yield groups[:at] + [group[:1], group[1:]] + groups[at + 1:]
        yield groups[:at] + [group[1:]] + groups[at + 1:]
        yield groups[:at] + [group + group[:1]] + groups[at + 1:]
        yield groups[:at] + [group + groups[at - 1][:1]] + groups[at + 1:]
        yield [[place for place in group if place != groups[at - 1][0]] for group in groups]


class Paper(unittest.TestCase):
    def held(self, net, most, trees, groups):
        ahead = copy.deepcopy((net, trees, groups))
        told = are_all_trees(net, most, trees, groups)
        self.assertIs(told, shows_by_words(net, most, trees, groups), (net, most, trees, groups))
        self.assertEqual((net, trees, groups), ahead)
        return told

    def test_what_was_told(self):
        for net in itertools.chain(small_and_drawn(), great_nets()):
            for most in EACH_MOST:
                self.assertIs(are_all_trees(net, most, trees_in(net, most), parting_of(net, most)), True)

    def test_changed_papers(self):
        told = {True: 0, False: 0}
        for net in itertools.chain(drawn_strong(56, 6), [plain_net("ab", []), full_net("abcd", 1), TOWN]):
            for most in EACH_MOST:
                trees, groups = trees_in(net, most), parting_of(net, most)
                for other in trees_changed(net, trees):
                    told[self.held(net, most, other, groups)] += 1
                for other in groups_changed(net, groups):
                    told[self.held(net, most, trees, other)] += 1
                for other in EACH_MOST:
                    told[self.held(net, other, trees, groups)] += 1
        self.assertGreater(min(told.values()), 500)

    def test_all_papers_of_a_small_net(self):
        net = read_net("a: b 2, c 1\nb: c 1\nc:")
        lines = bare_lines(net) + [("b", "a")]
        lists = [list(tree) for many in range(4) for tree in itertools.product(lines, repeat=many)]
        partings = [None, [], [["a", "b", "c"]], [["a"], ["b", "c"]], [["c"], ["b", "a"]], [["b"], ["c"], ["a"]]]
        for many in range(3):
            for trees in itertools.product(lists[:25], repeat=many):
                for groups in partings:
                    self.held(net, 2, list(trees), groups)
        for tree in lists:
            for groups in partings:
                self.held(net, 1, [tree], groups)
                self.held(net, 2, [tree], groups)

    def test_written_out(self):
        net = read_net("a: b 1, c 1, d 1\nb: c 1\nc: d 1\nd:")
        one, other = [("a", "b"), ("a", "c"), ("a", "d")], [("a", "b"), ("b", "c"), ("c", "d")]
        groups = [["a"], ["b"], ["c"], ["d"]]
        self.assertIs(are_all_trees(net, 1, [one], None), True)
        self.assertIs(are_all_trees(net, 2, [one], groups), True)
        self.assertIs(are_all_trees(net, 5, [other], groups[::-1]), True)
        self.assertIs(are_all_trees(net, 1, [one], groups), False)
        self.assertIs(are_all_trees(net, 2, [one], None), False)
        self.assertIs(are_all_trees(net, 2, [one, other], None), False)
        self.assertIs(are_all_trees(net, 2, [one], [["a"], ["b", "c", "d"]]), False)
        self.assertIs(are_all_trees(net, 3, [], groups), False)
        self.assertIs(are_all_trees(net, 1, [other[::-1]], None), False)
        self.assertIs(are_all_trees(net, 1, [[("a", "b"), ("b", "c"), ("d", "c")]], None), False)
        self.assertIs(are_all_trees(net, 1, [[("a", "b"), ("a", "c"), ("b", "c")]], None), False)
        self.assertIs(are_all_trees(net, 1, [[("a", "b"), ("b", "d"), ("c", "d")]], None), False)

    def test_groups_in_any_order_and_each_in_any_order(self):
        net = plain_net("abcd", [("a", "c", 9), ("b", "d", 9), ("c", "d", 2)])
        tree = [("a", "c"), ("b", "d"), ("c", "d")]
        for groups in ([["c", "a"], ["d", "b"]], [["d", "b"], ["a", "c"]], [["b", "d"], ["c", "a"]]):
            self.assertIs(are_all_trees(net, 3, [tree, tree], groups), True)
            self.assertIs(are_all_trees(net, 5, [tree, tree], groups), True)
            self.assertIs(are_all_trees(net, 2, [tree, tree], groups), False)
            self.assertIs(are_all_trees(net, 5, [tree], groups), False)
            self.assertIs(are_all_trees(net, 5, [tree, tree, tree], groups), False)

    def test_no_place_and_one_place(self):
        for net in ({}, {"a": {}}):
            for most in EACH_MOST:
                self.assertIs(are_all_trees(net, most, [[]] * most, None), True)
                for many in (0, most - 1, most + 1):
                    self.assertIs(are_all_trees(net, most, [[]] * many, None), False)
                for groups in ([], [[]], [["a"]], [["a"], []], [["a"], ["a"]], [["a"], ["b"]]):
                    self.assertIs(are_all_trees(net, most, [[]] * most, groups), False)
                    self.assertIs(are_all_trees(net, most, [], groups), False)
                self.assertIs(are_all_trees(net, most, [[("a", "b")]] * most, None), False)


if __name__ == "__main__":
    unittest.main()
