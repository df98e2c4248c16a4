"""Nets as texts: points 15 and 16."""

import itertools
import re
import unittest

from spareline.errors import NoRow
from spareline.texts import read_net, show_net
from tests.helper import THIRTEEN, TWELVE, drawn_nets, no_texts, plain_net, refuses, small_nets, turned

EXAMPLE = "elk: fox 3, owl 12\nfox:\nowl:"
EXAMPLE_NET = {"elk": {"fox": 3, "owl": 12}, "fox": {"elk": 3}, "owl": {"elk": 12}}
SIGNS = "abekz019 :,\n\t\r-AZ\u00e9"
ROW = re.compile(r"([a-z]{1,8}):((?: [a-z]{1,8} [1-9][0-9]{0,9}(?:,(?= ))?)*)")


def net_shown_by(text):
    """The net that a text shows, found in another way than the program's; None where there is none."""
    if text == "":
        return {}
    matches = [ROW.fullmatch(row) for row in text.split("\n")]
    if None in matches:
        return None
    places = [match.group(1) for match in matches]
    if places != sorted(set(places)) or len(places) > 12:
        return None
    lines = []
    for place, match in zip(places, matches):
        ends = [end.split() for end in match.group(2).split(",") if end]
        others = [end[0] for end in ends]
        if any(len(end) != 2 for end in ends) or others != sorted(set(others)):
            return None
        if any(other <= place or other not in places for other in others):
            return None
        lines.extend((place, other, int(strength)) for other, strength in ends)
    if any(strength > 10 ** 9 for one, other, strength in lines):
        return None
    return plain_net(places, lines)


class ShownNets(unittest.TestCase):
    def test_the_example_of_the_document(self):
        self.assertEqual(show_net(EXAMPLE_NET), EXAMPLE)
        self.assertEqual(show_net(turned(EXAMPLE_NET)), EXAMPLE)

    def test_no_places_and_places_without_lines(self):
        self.assertEqual(show_net({}), "")
        self.assertEqual(show_net({"a": {}}), "a:")
        self.assertEqual(show_net({"b": {}, "ab": {}, "a": {}}), "a:\nab:\nb:")

    def test_each_line_stands_in_the_row_of_its_lesser_place(self):
        net = plain_net(["b", "ab", "a"], [("b", "a", 10 ** 9), ("b", "ab", 1), ("ab", "a", 20)])
        self.assertEqual(show_net(net), "a: ab 20, b 1000000000\nab: b 1\nb:")

    def test_strengths_beyond_the_greatest_are_shown(self):
        self.assertEqual(show_net(plain_net("ab", [("a", "b", 2 * 10 ** 10)])), "a: b 20000000000\nb:")


class ReadNets(unittest.TestCase):
    def test_the_example_of_the_document(self):
        self.assertEqual(read_net(EXAMPLE), EXAMPLE_NET)

    def test_no_places_and_places_without_lines(self):
        self.assertEqual(read_net(""), {})
        self.assertEqual(read_net("a:"), {"a": {}})
        self.assertEqual(read_net("a:\nab:\nb:"), {"a": {}, "ab": {}, "b": {}})

    def test_what_is_shown_is_read(self):
        for net in itertools.chain(small_nets(), drawn_nets(300)):
            self.assertEqual(read_net(show_net(net)), net)
            self.assertEqual(read_net(show_net(turned(net))), net)
            self.assertEqual(net_shown_by(show_net(net)), net)

    def test_strengths_at_their_bounds(self):
        for strength in (1, 9, 10, 999999999, 10 ** 9):
            self.assertEqual(read_net(f"a: b {strength}\nb:"), {"a": {"b": strength}, "b": {"a": strength}})

    def test_twelve_places(self):
        text = "\n".join(place + ":" for place in TWELVE)
        self.assertEqual(read_net(text), {place: {} for place in TWELVE})


class ReadNetRefusals(unittest.TestCase):
    def refuse(self, text):
        refuses(self, NoRow, (text,), read_net, text)

    def hold_to_other_reading(self, text):
        asked = net_shown_by(text)
        if asked is None:
            self.refuse(text)
        else:
            self.assertEqual(read_net(text), asked, repr(text))

    def test_what_is_no_text(self):
        for thing in no_texts() + [EXAMPLE_NET, [EXAMPLE], EXAMPLE.encode()]:
            self.refuse(thing)

    def test_one_sign_changed_put_in_or_left_out(self):
        for text in (EXAMPLE, "", "a:", "a: b 1\nb:", "a: ab 10, b 2\nab: b 3\nb:", "abcdefgh:\nb:",
                     "a: b 1000000000\nb:"):
            told = [text[:at] + text[at + 1:] for at in range(len(text))]
            told += [text[:at] + sign + text[at:] for at in range(len(text) + 1) for sign in SIGNS]
            told += [text[:at] + sign + text[at + 1:] for at in range(len(text)) for sign in SIGNS]
            for near in told:
                self.hold_to_other_reading(near)

    def test_all_short_texts(self):
        for many in range(6):
            for signs in itertools.product("ab: ,1\n", repeat=many):
                self.hold_to_other_reading("".join(signs))

    def test_rows_in_another_order_or_twice(self):
        rows = EXAMPLE.split("\n")
        for order in itertools.permutations(rows):
            if list(order) != rows:
                self.refuse("\n".join(order))
        for row in rows:
            self.refuse("\n".join(sorted(rows + [row])))
        self.refuse("a:\na:")

    def test_rows_too_many_or_missing(self):
        for text in ("\n", "a:\n", "\na:", "a:\n\nb:", EXAMPLE + "\n", "\n" + EXAMPLE, "elk: fox 3, owl 12\nfox:",
                     "elk: fox 3, owl 12", "a:\r\nb:", "a: / b:", "a:\x0bb:", "a:\u2028b:"):
            self.refuse(text)

    def test_a_line_in_both_rows_in_the_wrong_one_or_twice(self):
        for text in ("a: b 1\nb: a 1", "a:\nb: a 1", "a: b 1, b 1\nb:", "a: b 1, b 2\nb:", "a: a 1", "a: a 1\nb:",
                     "a: c 1, b 1\nb:\nc:", "b: ab 1\nab:"):
            self.refuse(text)

    def test_blanks_and_marks_out_of_place(self):
        for text in ("a: ", "a : b 1\nb:", " a: b 1\nb:", "a:b 1\nb:", "a:  b 1\nb:", "a: b  1\nb:", "a: b 1 \nb:",
                     "a: b 1,\nb:", "a: b 1, \nb:", "a:, b 1\nb:", "a: b 1,c 2\nb:\nc:", "a: b 1,, c 2\nb:\nc:",
                     "a: b 1 , c 2\nb:\nc:", "a: b 1; c 2\nb:\nc:", "a", "a\nb", ":", "::", "a::", ": b 1\nb:",
                     "a: b\nb:", "a: 1\nb:", "a: b:1\nb:", "a: b 1 2\nb:", "a: b 1:\nb:", "a: b\t1\nb:"):
            self.refuse(text)

    def test_strengths_out_of_their_bounds(self):
        for strength in ("0", "00", "01", "-1", "+1", "1000000001", "9999999999", "10000000000", "1.0", "1_0", "x", "",
                         "True", "\u0661"):
            self.refuse(f"a: b {strength}\nb:")

    def test_names_that_are_none(self):
        for name in ("", "A", "Fox", "f1", "fo-x", "abcdefghi", "\u00e4", "f x"):
            self.refuse(name + ":")
            self.refuse("\n".join(sorted(["elk:", name + ":"])))
            self.refuse(f"elk: {name} 1\nfox:")

    def test_a_thirteenth_place(self):
        self.refuse("\n".join(place + ":" for place in THIRTEEN))
        self.refuse(show_net(plain_net(THIRTEEN, [("a", "m", 1)])))

    def test_a_shown_strength_beyond_the_greatest_is_not_read(self):
        self.refuse(show_net(plain_net("ab", [("a", "b", 10 ** 9 + 1)])))


if __name__ == "__main__":
    unittest.main()
