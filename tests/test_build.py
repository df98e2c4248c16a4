"""The fewest new lines, and the sides that show it: points 61 to 65."""

import itertools
import unittest

from spareline.build import is_fewest, lacking_groups, new_lines
from tests.helper import (TWELVE, all_nets_of_five, bare_lines, drawn_nets, drawn_strong, keeps_by_sides, leaving,
                          mixed, plain_net, put_to, ring_of, round_nets, shape_of, small_nets, turned)

ELEVEN = TWELVE[:11]
# A chain of three, a place by itself, and two places with a strong line.
TOWN = plain_net("abcdef", [("a", "b", 1), ("b", "c", 1), ("e", "f", 9)])


def lack_by_hand(net, side, k):
    return max(0, k - leaving(net, side))


def most_lacking(net, k):
    """By all sides tried: the most that sides without a common place, none empty or all places, lack together."""
    places = sorted(net)
    every = (1 << len(places)) - 1
    lacks = [lack_by_hand(net, [place for at, place in enumerate(places) if mask >> at & 1], k)
             for mask in range(every)] + [0]
    most = [0] * (every + 1)
    for mask in range(1, every + 1):
        least = mask & -mask
        most[mask] = most[mask ^ least]
        part = mask
        while part:
            if part & least and lacks[part]:
                most[mask] = max(most[mask], lacks[part] + most[mask ^ part])
            part = (part - 1) & mask
    return most[every]


def cut_down(net, most_places=11):
    """The net of the first places, and of the lines between these."""
    places = sorted(net)[:most_places]
    return plain_net(places, [line + (net[line[0]][line[1]],) for line in bare_lines(net) if set(line) <= set(places)])


def nets_of_eleven():
    """Nets of eleven places: without lines, in groups, round, thin and thick."""
    yield plain_net(ELEVEN, [])
    yield plain_net(ELEVEN, [pair + (1,) for pair in itertools.combinations(ELEVEN, 2)])
    yield plain_net(ELEVEN, [pair + (10 ** 9,) for pair in itertools.combinations(ELEVEN, 2)])
    yield plain_net(ELEVEN, ring_of(ELEVEN))
    yield plain_net(ELEVEN, [("a", end, 1) for end in ELEVEN[1:]])
    yield plain_net(ELEVEN, [("f", end, 10 ** 9) for end in ELEVEN if end != "f"])
    yield plain_net(ELEVEN, ring_of(ELEVEN[:4]) + ring_of(ELEVEN[4:8]) + [("i", "j", 2)])
    for net in itertools.chain(round_nets(), drawn_nets(65), drawn_strong(39, 12)):
        if len(net) > 7:
            yield cut_down(net)


class Fewest(unittest.TestCase):
    def hold_lines(self, net, k):
        lines = new_lines(net, k)
        self.assertIs(type(lines), list)
        for line in lines:
            self.assertEqual([type(line)] + [type(part) for part in line], [tuple, str, str, int])
            one, other, many = line
            self.assertTrue(one in net and other in net and one < other and many >= 1, (net, k, lines))
        pairs = [line[:2] for line in lines]
        self.assertEqual(pairs, sorted(set(pairs)))
        self.assertEqual(lines, sorted(lines))
        self.assertTrue(keeps_by_sides(put_to(net, lines), k), (net, k, lines))
        return sum(many for one, other, many in lines)

    def hold_sides(self, net, k, many):
        sides = lacking_groups(net, k)
        self.assertIs(type(sides), list)
        for side in sides:
            self.assertIs(type(side), list)
            self.assertEqual(side, sorted(set(side)))
            self.assertTrue(set(side) < set(net) and side)
            self.assertGreater(lack_by_hand(net, side, k), 0, (net, k, sides))
        self.assertEqual(sides, sorted(sides, key=lambda side: side[0]))
        places = [place for side in sides for place in side]
        self.assertEqual(len(places), len(set(places)), (net, k, sides))
        lack = sum(lack_by_hand(net, side, k) for side in sides)
        self.assertIn(lack, (2 * many, 2 * many - 1), (net, k, sides))
        self.assertEqual(bool(sides), many > 0)
        return lack

    def hold(self, net, k):
        many = self.hold_lines(net, k)
        lack = self.hold_sides(net, k, many)
        self.assertEqual(many == 0, keeps_by_sides(net, k))
        self.assertIs(is_fewest(net, k, new_lines(net, k), lacking_groups(net, k)), True)
        return many, lack

    def test_an_ordinary_net(self):
        self.assertEqual(self.hold(TOWN, 2), (3, 6))
        self.assertEqual(self.hold(TOWN, 3), (6, 11))

    def test_none_and_one_place(self):
        for k in range(2, 6):
            for net in ({}, {"a": {}}):
                self.assertEqual(new_lines(net, k), [])
                self.assertEqual(lacking_groups(net, k), [])

    def test_two_places(self):
        for k in range(2, 6):
            self.assertEqual(new_lines({"b": {}, "a": {}}, k), [("a", "b", k)])
            self.assertEqual(lacking_groups({"b": {}, "a": {}}, k), [["a"], ["b"]])
            for strength in (1, 2, 3, 4, 5, 10 ** 9):
                net = plain_net("ab", [("a", "b", strength)])
                asked = [("a", "b", k - strength)] if strength < k else []
                self.assertEqual(new_lines(net, k), asked)
                self.assertEqual(lacking_groups(net, k), [["a"], ["b"]] if asked else [])

    def test_places_without_lines(self):
        for many in range(2, 12):
            net = plain_net(TWELVE[:many], [])
            for k in range(2, 6):
                self.assertEqual(self.hold(net, k), ((many * k + 1) // 2, many * k))

    def test_nets_that_keep_k_already(self):
        for k in range(2, 6):
            for net in (plain_net("abc", [("a", "b", 5), ("b", "c", 5)]), plain_net("ab", [("a", "b", k)]),
                        plain_net(ELEVEN, [pair + (1,) for pair in itertools.combinations(ELEVEN, 2)]),
                        plain_net("abcdef", [pair + (1,) for pair in itertools.combinations("abcdef", 2)])):
                self.assertEqual(new_lines(net, k), [])
                self.assertEqual(lacking_groups(net, k), [])

    def test_chains_and_rings_and_stars(self):
        for many in range(3, 12):
            places = mixed(TWELVE[:many], many)
            chain = plain_net(places, ring_of(places)[:-1])
            self.assertEqual(self.hold(chain, 2), (1, 2))
            ring = plain_net(places, ring_of(places))
            self.assertEqual(self.hold(ring, 2), (0, 0))
            self.assertEqual(self.hold(ring, 3), ((many + 1) // 2, many))
            star = plain_net(places, [(places[0], end, 1) for end in places[1:]])
            self.assertEqual(self.hold(star, 2), (many // 2, many - 1))

    def test_strengths_count(self):
        strong = plain_net("abcd", [("a", "b", 3), ("b", "c", 2), ("c", "d", 10 ** 9)])
        self.assertEqual(self.hold(strong, 2), (0, 0))
        self.assertEqual(self.hold(strong, 3), (1, 2))
        self.assertEqual(self.hold(strong, 5), (3, 6))

    def test_all_sides_tried_in_small_nets(self):
        for turn, net in enumerate(itertools.chain(small_nets(), drawn_strong(140, 7), all_nets_of_five())):
            for k in (2, 3, 4, 5) if turn % 4 == 0 else (2 + turn % 4,):
                many, lack = self.hold(net, k)
                self.assertEqual(lack, most_lacking(net, k), (net, k))
                self.assertEqual(many, (lack + 1) // 2)

    def test_one_line_less_keeps_less(self):
        pairs = list(itertools.combinations("abcd", 2))
        for net in (plain_net("abcd", []), plain_net("abcd", ring_of(list("abcd"))),
                    plain_net("abcd", [("a", "b", 2), ("b", "c", 1)])):
            for k in (3, 4):
                many = self.hold(net, k)[0]
                for fewer in itertools.combinations_with_replacement(pairs, many - 1):
                    self.assertFalse(keeps_by_sides(put_to(net, [pair + (1,) for pair in fewer]), k))

    def test_eleven_places(self):
        for net in nets_of_eleven():
            for k in (2, 3, 5):
                self.hold(net, k)

    def test_equal_nets_have_equal_answers(self):
        for net in itertools.chain(small_nets(), nets_of_eleven()):
            ahead = shape_of(net)
            for k in (2, 5):
                self.assertEqual(new_lines(turned(net), k), new_lines(net, k))
                self.assertEqual(lacking_groups(turned(net), k), lacking_groups(net, k))
            self.assertEqual(shape_of(net), ahead)


class IsFewest(unittest.TestCase):
    # A chain lacks one line between its ends; each end lacks one.
    chain = plain_net("abc", [("a", "b", 1), ("b", "c", 1)])

    def told(self, lines, groups, net=None, k=2):
        ahead = shape_of((net, lines, groups))
        told = is_fewest(self.chain if net is None else net, k, lines, groups)
        self.assertIn(told, (True, False))
        self.assertIs(type(told), bool)
        self.assertEqual(shape_of((net, lines, groups)), ahead)
        return told

    def test_what_shows_it(self):
        self.assertTrue(self.told([("a", "c", 1)], [["a"], ["c"]]))
        self.assertTrue(self.told([("a", "c", 1)], [["c"], ["a"]]))
        self.assertTrue(self.told([("a", "c", 1)], [["b", "a"], ["c"]]))
        self.assertTrue(self.told([("a", "c", 1)], [["c", "b"], ["a"]]))

    def test_one_less_than_twice(self):
        self.assertTrue(self.told([("a", "c", 1)], [["a"]]))
        self.assertTrue(self.told([("a", "c", 1)], [["b", "c"]]))
        self.assertTrue(self.told([("a", "c", 1)], [["a"], ["b"]]))

    def test_sides_that_lack_too_little(self):
        self.assertFalse(self.told([("a", "c", 1)], []))
        self.assertFalse(self.told([("a", "c", 1)], [["b"]]))
        self.assertFalse(self.told([("a", "c", 1)], [["a", "c"]]))
        self.assertFalse(self.told([("a", "c", 2)], [["a"], ["c"]]))
        self.assertFalse(self.told([("a", "b", 1), ("b", "c", 1)], [["a"], ["c"]]))
        self.assertFalse(self.told([("a", "b", 1), ("a", "c", 1)], [["a"], ["c"]]))

    def test_sides_with_a_common_place_empty_ones_and_all_places(self):
        self.assertFalse(self.told([("a", "c", 1)], [["a"], ["a"]]))
        self.assertFalse(self.told([("a", "c", 1)], [["a"], ["a", "b"]]))
        self.assertFalse(self.told([("a", "c", 1)], [["a", "b"], ["b", "c"]]))
        self.assertFalse(self.told([("a", "c", 1)], [["a"], ["c"], []]))
        self.assertFalse(self.told([("a", "c", 1)], [[], ["a"], ["c"]]))
        self.assertFalse(self.told([("a", "c", 1)], [["a", "b", "c"]]))
        self.assertFalse(self.told([("a", "c", 1)], [["c", "b", "a"], []]))
        self.assertFalse(self.told([("a", "c", 1)], [[]]))
        self.assertFalse(self.told([("a", "c", 2)], [[], ["a"], ["b"], ["c"]]))
        apart = plain_net("abc", [])
        lines = [("a", "b", 1), ("a", "c", 1), ("b", "c", 1)]
        self.assertFalse(self.told(lines, [["a", "b", "c"], ["a"], ["b"]], apart))

    def test_more_than_twice(self):
        net = plain_net("abcd", [])
        self.assertFalse(self.told([("a", "b", 1)], [["a"], ["b"]], net))
        self.assertFalse(self.told([("a", "c", 1)], [["a"], ["b"], ["c"]],
                                   plain_net("abc", [("a", "b", 1), ("b", "c", 1), ("a", "c", 1)])))

    def test_nets_that_still_lack(self):
        self.assertFalse(self.told([("a", "b", 1)], [["a"], ["c"]]))
        self.assertFalse(self.told([("b", "c", 1)], [["a"]]))
        self.assertFalse(self.told([], []))
        self.assertFalse(self.told([], [["b"]]))
        apart = plain_net("abcd", [("a", "b", 1), ("c", "d", 1)])
        self.assertTrue(self.told([("a", "c", 1), ("b", "d", 1)], [["a"], ["b"], ["c"], ["d"]], apart))
        self.assertFalse(self.told([("a", "b", 1), ("c", "d", 1)], [["a"], ["b"], ["c"], ["d"]], apart))

    def test_lines_that_are_no_new_lines(self):
        for lines in ([("c", "a", 1)], [("a", "a", 1)], [("a", "z", 1)], [("", "c", 1)], [("a", "C", 1)],
                      [("a", "c", 1), ("a", "a", 0)], [("a", "c", 1), ("b", "c", 0)], [("a", "b", -1), ("a", "c", 2)],
                      [("a", "b", 0), ("a", "c", 1)], [("a", "c", 2), ("b", "c", -1)]):
            self.assertFalse(self.told(lines, [["a"], ["c"]]), lines)

    def test_lines_out_of_order_and_twice(self):
        apart = plain_net("abc", [])
        sides = [["a"], ["b"], ["c"]]
        self.assertTrue(self.told([("a", "b", 1), ("a", "c", 1), ("b", "c", 1)], sides, apart))
        for order in itertools.permutations([("a", "b", 1), ("a", "c", 1), ("b", "c", 1)]):
            self.assertEqual(self.told(list(order), sides, apart), list(order) == sorted(order))
        two = plain_net("ab", [])
        self.assertTrue(self.told([("a", "b", 2)], [["a"], ["b"]], two))
        self.assertFalse(self.told([("a", "b", 1), ("a", "b", 1)], [["a"], ["b"]], two))
        three = {"a": {}, "b": {}}
        self.assertTrue(self.told([("a", "b", 3)], [["b"], ["a"]], three, 3))
        self.assertFalse(self.told([("a", "b", 1), ("a", "b", 2)], [["b"], ["a"]], three, 3))
        self.assertFalse(self.told([("a", "b", 1), ("b", "a", 2)], [["b"], ["a"]], three, 3))

    def test_nets_that_keep_k_already(self):
        for net in ({}, {"a": {}}, plain_net("ab", [("a", "b", 5)])):
            for k in range(2, 6):
                self.assertTrue(self.told([], [], net, k))
                self.assertFalse(self.told([], [[]], net, k))
                self.assertFalse(self.told([], [sorted(net)], net, k))
                self.assertFalse(self.told([("a", "b", 1)], [], net, k))
                self.assertFalse(self.told([("a", "a", 1)], [], net, k))
        # Sides that lack nothing say nothing, but they are not ruled out.
        self.assertTrue(self.told([], [["b"], ["a"]], plain_net("ab", [("a", "b", 5)])))
        self.assertTrue(self.told([("a", "c", 1)], [["a"], ["c"], ["b"]]))

    def test_great_numbers(self):
        self.assertFalse(self.told([("a", "c", 10 ** 9)], [["a"], ["c"]]))
        strong = plain_net("abc", [("a", "b", 10 ** 9), ("b", "c", 1)])
        self.assertTrue(self.told([("a", "c", 4)], [["a", "b"], ["c"]], strong, 5))
        self.assertTrue(self.told([("b", "c", 4)], [["c"], ["b", "a"]], strong, 5))
        self.assertFalse(self.told([("a", "b", 4)], [["c"], ["b", "a"]], strong, 5))

    def judged_by_hand(self, net, k, lines, groups):
        """Point 64 word by word, by all sides tried."""
        if any(one not in net or other not in net or one >= other or many < 1 for one, other, many in lines):
            return False
        if any(line[:2] >= following[:2] for line, following in zip(lines, lines[1:])):
            return False
        if not keeps_by_sides(put_to(net, lines), k):
            return False
        if any(not side or set(side) == set(net) for side in groups):
            return False
        if any(set(side) & set(other) for side, other in itertools.combinations(groups, 2)):
            return False
        lack = sum(lack_by_hand(net, side, k) for side in groups)
        many = sum(line[2] for line in lines)
        return lack == 2 * many or lack == 2 * many - 1

    def bent(self, net, lines, groups):
        """What was told, and the same with something changed."""
        places = sorted(net)
        yield lines, groups
        yield lines[1:], groups
        yield lines[:-1], groups
        yield list(reversed(lines)), groups
        yield lines + lines[-1:], groups
        yield [(other, one, many) for one, other, many in lines], groups
        yield [(one, other, many + 1) for one, other, many in lines], groups
        yield [(one, other, many - 1) for one, other, many in lines], groups
        yield [line for line in lines if line[2] == 1], groups
        yield sorted(lines + [(places[0], places[-1], 1)]), groups
        yield lines + [("zzz", "zzzz", 1)], groups
        for at in range(len(lines)):
            one, other, many = lines[at]
            yield lines[:at] + [(one, other, many - 1)] + lines[at + 1:], groups
            yield lines[:at] + [(one, places[-1], many)] + lines[at + 1:], groups
        yield lines, groups[1:]
        yield lines, groups[:-1]
        yield lines, groups[2:]
        yield lines, groups + [[]]
        yield lines, groups + [places]
        yield lines, groups + groups[:1]
        yield lines, mixed([mixed(side) for side in groups])
        yield lines, [places[:1]] + groups
        yield lines, [sorted(set(places) - set(side)) for side in groups]
        yield lines, [[place] for place in places]
        yield lines, [sorted(set(groups[0] + groups[-1]))] if groups else [places[:1]]

    def test_what_is_told_and_what_is_bent(self):
        judged = {True: 0, False: 0}
        for turn, net in enumerate(itertools.chain(drawn_strong(84), small_nets())):
            if len(net) < 2 or turn > 84 and turn % 9:
                continue
            k = 2 + turn % 4
            lines, groups = new_lines(net, k), lacking_groups(net, k)
            self.assertTrue(self.told(lines, groups, net, k))
            for some_lines, some_groups in self.bent(net, lines, groups):
                asked = self.judged_by_hand(net, k, some_lines, some_groups)
                judged[asked] += 1
                self.assertEqual(self.told(some_lines, some_groups, net, k), asked, (net, k, some_lines, some_groups))
        self.assertGreater(min(judged.values()), 200, judged)


if __name__ == "__main__":
    unittest.main()
