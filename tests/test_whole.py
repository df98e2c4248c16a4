"""The answers of all stages hold together: points 6 and 7."""

import itertools
import random
import unittest

from spareline.build import is_fewest, lacking_groups, new_lines
from spareline.cuts import lone_lines, parting_pairs
from spareline.cuttree import cut_tree, held_by, is_cut_tree, least_on
from spareline.desk import Desk
from spareline.forests import are_all_trees, parting_of, trees_in
from spareline.nets import crossing_of, groups_in, net_joined, net_less
from spareline.oneway import is_one_way, keeps_each_way, one_way
from spareline.rings import held_by_three, rings_in
from spareline.routes import is_shown, most_between, routes_between, side_between
from spareline.texts import show_net
from spareline.works import Works
from tests.helper import (TOWN, TWELVE, Replay, all_nets_of_five, bare_lines, drawn_deeds, drawn_nets, drawn_strong,
                          full_net, hold_trees, mixed, plain_net, refusal_of, round_nets, small_nets, values_of)


def many_nets():
    return itertools.chain(small_nets(), round_nets(), drawn_nets(39), drawn_strong(52, 12))


def of_ones(net):
    """The same places and lines, each of strength 1."""
    return plain_net(net, [line + (1,) for line in bare_lines(net)])


def two_places(net):
    return itertools.combinations(sorted(net), 2)


def least_of_all(net):
    """The least that goes between any two places; None where there are no two."""
    return min((most_between(net, one, other) for one, other in two_places(net)), default=None)


def has_all(net, k):
    least = least_of_all(net)
    return least is None or least >= k


class RoutesAndTreesOfCuts(unittest.TestCase):
    def test_routes_come_to_the_crossing_of_the_side(self):
        for net in many_nets():
            for one, other in two_places(net):
                routes, side = routes_between(net, one, other), side_between(net, one, other)
                many = sum(number for number, places in routes)
                self.assertEqual(many, crossing_of(net, side))
                self.assertEqual(many, most_between(net, one, other))
                self.assertIs(is_shown(net, one, other, routes, side), True)
                if routes:
                    # None of them can be spared.
                    self.assertIs(is_shown(net, one, other, routes[1:], side), False)

    def test_the_tree_has_this_number_as_its_least(self):
        for net in many_nets():
            tree = cut_tree(net)
            self.assertIs(is_cut_tree(net, tree), True)
            for one, other in two_places(net):
                amount, side = least_on(tree, one, other)
                self.assertEqual(amount, most_between(net, one, other))
                self.assertEqual(amount, crossing_of(net, side))
                self.assertTrue(one in side and other not in side)

    def test_groups_held_are_those_of_the_routes(self):
        for net in drawn_strong(39, 8):
            for k in (1, 2, 3, 5):
                for group in held_by(net, k):
                    for one, other in two_places(net):
                        if one in group:
                            self.assertEqual(other in group, most_between(net, one, other) >= k)
            self.assertEqual(held_by(net, 1), groups_in(net))


class LinesThatCut(unittest.TestCase):
    def nets(self):
        return itertools.chain(all_nets_of_five(), round_nets(), drawn_nets(39), [TOWN])

    def test_the_net_without_them_has_one_group_more(self):
        for net in self.nets():
            many = len(groups_in(net))
            lone = lone_lines(net)
            for line in bare_lines(net):
                self.assertEqual(line in lone, len(groups_in(net_less(net, [line]))) == many + 1)
            for pair in parting_pairs(net):
                self.assertEqual(len(groups_in(net_less(net, list(pair)))), many + 1)
                self.assertFalse(set(pair) & set(lone))

    def test_pairs_fall_into_rings(self):
        for net in self.nets():
            pairs = [pair for lines, groups in rings_in(net) for pair in itertools.combinations(sorted(lines), 2)]
            self.assertEqual(sorted(pairs), parting_pairs(net))
            for lines, groups in rings_in(net):
                self.assertEqual(len(groups_in(net_less(net, lines))), len(groups_in(net)) + len(lines) - 1)

    def test_places_that_no_two_lines_part_have_three_routes(self):
        for net in self.nets():
            thin = of_ones(net)
            for group in held_by_three(net):
                for one, other in two_places(net):
                    if one in group:
                        self.assertEqual(other in group, most_between(thin, one, other) >= 3)


class NewLines(unittest.TestCase):
    def nets(self):
        return itertools.chain(itertools.islice(small_nets(), 0, None, 5), round_nets(), drawn_nets(26),
                               drawn_strong(39, 11))

    def test_as_few_as_must_be(self):
        for net, k in itertools.product(self.nets(), (2, 3, 4, 5)):
            lines, groups = new_lines(net, k), lacking_groups(net, k)
            self.assertIs(is_fewest(net, k, lines, groups), True)
            self.assertTrue(has_all(net_joined(net, lines), k))
            lacking = sum(k - crossing_of(net, group) for group in groups)
            # Sides without a common place lack more than twice one line less.
            if lines:
                self.assertGreater(lacking, 2 * (sum(line[2] for line in lines) - 1))
            else:
                self.assertTrue(has_all(net, k))

    def test_with_new_lines_for_three_nothing_cuts(self):
        # Stage 4 looks at no strength, so this is asked of nets of which all strengths stay 1.
        asked = 0
        for net in itertools.chain(all_nets_of_five(), map(of_ones, self.nets())):
            joined = net_joined(net, new_lines(net, 3))
            if all(joined[one][other] == 1 for one, other in bare_lines(joined)):
                asked += 1
                self.assertEqual((lone_lines(joined), parting_pairs(joined), rings_in(joined)), ([], [], []))
                self.assertEqual(held_by_three(joined), groups_in(joined))
                self.assertLessEqual(len(groups_in(joined)), 1)
        self.assertGreater(asked, 50)

    def test_with_new_lines_for_twice_k_there_are_trees_and_a_plan(self):
        for net, k in itertools.product(self.nets(), (1, 2)):
            joined = net_joined(net, new_lines(net, 2 * k))
            self.assertEqual(len(trees_in(joined, k)), k)
            plan = one_way(joined, k)
            self.assertTrue(is_one_way(joined, plan) and keeps_each_way(plan, k))


class TreesAndPlans(unittest.TestCase):
    def nets(self):
        thick = [full_net(TWELVE, 1), full_net(TWELVE[:7], 1), full_net("abc", 3), full_net("ab", 10)]
        return itertools.chain(small_nets(), drawn_nets(39), drawn_strong(80, 12), thick)

    def test_with_twice_k_routes_there_are_k_trees(self):
        asked = 0
        for net in self.nets():
            for k in (1, 2, 3, 4, 5):
                if has_all(net, 2 * k):
                    asked += 1
                    trees = trees_in(net, k)
                    hold_trees(self, net, trees)
                    self.assertEqual(len(trees), k)
                    self.assertIsNone(parting_of(net, k))
        self.assertGreater(asked, 300)

    def test_with_twice_k_routes_there_is_a_plan_and_else_none(self):
        for net in self.nets():
            for k in (1, 2, 3):
                if has_all(net, 2 * k):
                    plan = one_way(net, k)
                    self.assertTrue(is_one_way(net, plan) and keeps_each_way(plan, k))
                else:
                    side = refusal_of(one_way, net, k).side
                    self.assertLess(crossing_of(net, side), 2 * k)

    def test_trees_are_as_many_as_a_parting_lets(self):
        for net in self.nets():
            least = least_of_all(net)
            for most in (1, 3, 5):
                trees, groups = trees_in(net, most), parting_of(net, most)
                self.assertIs(are_all_trees(net, most, trees, groups), True)
                # Each tree has a route of its own between any two places.
                if least is not None:
                    self.assertLessEqual(len(trees), least)
                self.assertEqual(len(trees) == 0, len(groups_in(net)) > 1)


class TheNetThatStands(unittest.TestCase):
    def asked(self, net):
        """What all stages tell of a net."""
        told = [cut_tree(net), held_by(net, 2), lone_lines(net), parting_pairs(net), rings_in(net), held_by_three(net),
                new_lines(net, 3), lacking_groups(net, 3), trees_in(net, 3), parting_of(net, 3)]
        for one, other in itertools.islice(two_places(net), 5):
            told += [routes_between(net, one, other), side_between(net, one, other)]
        error = refusal_of(one_way, net, 1)
        return told + [one_way(net, 1) if error is None else values_of(error)]

    def test_whatever_lines_came_and_went(self):
        draw = random.Random(7)
        for net in drawn_strong(39, 9):
            works, replay = Works(net), Replay(net)
            deeds = {"settle": works.settle, "leave": works.leave, "build": works.build, "drop": works.drop,
                     "shut": works.shut, "reopen": works.reopen, "undo": works.undo}
            for word, *told in drawn_deeds(draw, replay, 30):
                replay.do(word, *told)
                refusal_of(deeds[word], *told)
            self.assertEqual(self.asked(works.now()), self.asked(replay.standing()[0]))

    def test_and_in_whatever_order(self):
        for turn, net in enumerate(drawn_strong(26, 8)):
            ways = []
            for way in (1, 2):
                desk = Desk()
                for place in mixed(net, turn + way):
                    desk.say("settle " + place)
                for one, other in mixed(bare_lines(net), turn + way):
                    desk.say(f"build {one} {other} {net[one][other]}")
                ways.append([desk.say(row) for row in ("now", "tree", "held 2", "lone", "pairs", "rings", "three",
                                                       "fewest 3", "trees 3")])
                self.assertEqual(ways[-1][0], show_net(net).replace("\n", " / ") or "-")
            self.assertEqual(ways[0], ways[1])


if __name__ == "__main__":
    unittest.main()
