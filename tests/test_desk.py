"""The desk: its rows, their answers and their refusals: points 95 to 97."""

import itertools
import random
import unittest

from spareline.build import lacking_groups, new_lines
from spareline.cuts import cut_off, lone_lines, parting_pairs
from spareline.cuttree import cut_tree, held_by
from spareline.desk import Desk
from spareline.errors import NoDeed, NoLine, NoPlace, NoRow, NoStrength, OldLine, OldPlace, SamePlace, TooMany, TooWeak
from spareline.forests import parting_of, trees_in
from spareline.nets import groups_in
from spareline.oneway import one_way
from spareline.rings import held_by_three, rings_in
from spareline.routes import most_between, routes_between, side_between
from spareline.texts import show_net
from tests.helper import (TOWN, TWELVE, Replay, bare_lines, drawn_deeds, drawn_nets, drawn_strong, full_net, mixed,
                          no_texts, plain_net, refusal_of, ring_of, round_nets, shape_of, small_nets, spoil, values_of)

ELK = "elk: fox 3, owl 2 / fox: owl 1 / owl: ram 9 / ram:"
# The rows that ask of the net alone, at all figures that they may have.
ASKING = (["now", "tree", "lone", "pairs", "rings", "three"] + [f"held {k}" for k in range(1, 10)]
          + [f"fewest {k}" for k in range(2, 6)] + [f"oneway {k}" for k in range(1, 4)]
          + [f"trees {k}" for k in range(1, 6)])


def desk_at(net):
    desk = Desk()
    desk.say("begin " + (show_net(net).replace("\n", " / ") or "-"))
    return desk


def told_at(desk, row):
    """The text with which a row is answered, or its refusal's name and values."""
    answers = []
    error = refusal_of(lambda: answers.append(desk.say(row)))
    return answers[0] if error is None else (type(error).__name__, values_of(error))


def told_by(call, *handed):
    """The answer of a call, or its refusal's name and values."""
    answers = []
    error = refusal_of(lambda: answers.append(call(*handed)))
    return answers[0] if error is None else (type(error).__name__, values_of(error))


def listed(things):
    return " ".join(things) or "-"


def sides(groups):
    return listed("+".join(group) for group in groups)


def standing(desk):
    return desk.say("now"), desk.say("idle"), desk.say("days")


def some_nets():
    return itertools.chain(small_nets(), round_nets(), drawn_nets(39), drawn_strong(39, 12))


class Held(unittest.TestCase):
    def refused(self, desk, kind, values, row):
        """Holds a row to its refusal, and the desk to being as it was."""
        ahead = standing(desk)
        error = refusal_of(desk.say, row)
        self.assertIs(type(error), kind, row)
        self.assertEqual(values_of(error), values, row)
        self.assertEqual(standing(desk), ahead, row)

    def no_row(self, desk, row):
        ahead, shape = standing(desk), shape_of(row)
        error = refusal_of(desk.say, row)
        self.assertIs(type(error), NoRow, row)
        self.assertIs(error.row, row)
        self.assertEqual((standing(desk), shape_of(row)), (ahead, shape), row)


class Begin(Held):
    def test_at_first_there_are_no_places(self):
        self.assertEqual(standing(Desk()), ("-", "-", "-"))
        self.refused(Desk(), NoDeed, (), "undo")

    def test_no_places(self):
        desk = desk_at(TOWN)
        desk.say("shut a b")
        self.assertEqual(desk.say("begin -"), "-")
        self.assertEqual(standing(desk), ("-", "-", "-"))
        self.refused(desk, NoDeed, (), "undo")

    def test_a_text(self):
        desk = Desk()
        self.assertEqual(desk.say("begin elk: fox 3, owl 12 / fox: / owl:"), "elk+fox+owl")
        self.assertEqual(desk.say("now"), "elk: fox 3, owl 12 / fox: / owl:")
        self.assertEqual(desk.say("begin a: / b: c 1000000000 / c:"), "a b+c")
        self.assertEqual(desk.say("begin zzzzzzzz:"), "zzzzzzzz")
        self.assertEqual(desk.say("now"), "zzzzzzzz:")

    def test_texts_of_many_nets(self):
        desk = Desk()
        for net in some_nets():
            if net:
                text = show_net(net).replace("\n", " / ")
                self.assertEqual(desk.say("begin " + text), sides(groups_in(net)))
                self.assertEqual(standing(desk), (text, "-", "-"))

    def test_begun_again(self):
        desk = desk_at(TOWN)
        for row in ("settle x", "build x a 3", "shut x a", "drop a b"):
            desk.say(row)
        self.assertEqual(desk.say("begin " + ELK), "elk+fox+owl+ram")
        self.assertEqual(standing(desk), (ELK, "-", "-"))
        self.refused(desk, NoDeed, (), "undo")
        self.refused(desk, NoLine, ("x", "a"), "reopen x a")

    def test_texts_that_are_no_nets(self):
        desk = desk_at(TOWN)
        desk.say("shut a b")
        for text in ("", " ", "--", "- ", " -", "- -", "-\n", "a", "a:b", "A:", "a1:", "a: ", " a:", "a:  / b:",
                     "a:/ b:", "a: /b:", "a:/b:", "a: / b", "a: / ", " / a:", "a: / / b:", "a: / a:", "b: / a:",
                     "a:, b 1 / b:", "a: b 0 / b:", "a: b 01 / b:", "a: b 1000000001 / b:", "a: b -1 / b:",
                     "a: b 1.0 / b:", "a: b / b:", "a: b 1", "a: b 1 / b: a 1", "a: / b: a 1", "a: c 1, b 1 / b: / c:",
                     "a: b 1,c 1 / b: / c:", "a: b 1 , c 1 / b: / c:", "a:  b 1 / b:", "a: b  1 / b:", "a: b 1  / b:",
                     "a: b 1 /  b:", "a: b 1,  c 1 / b: / c:", "a: b 1\nb:", "a:\nb:", "a: a 1", "abcdefghi:",
                     " / ".join(place + ":" for place in TWELVE + ["m"]), "now", "begin a:", "a: b 1 & b:"):
            self.no_row(desk, "begin " + text)
        for row in ("begin", "begin\n", "Begin -", "begin-", " begin -", "begin  -", "begin a: b 1 / b:\n"):
            self.no_row(desk, row)

    def test_twelve_places(self):
        desk = Desk()
        self.assertEqual(desk.say("begin " + " / ".join(place + ":" for place in TWELVE)), " ".join(TWELVE))
        self.refused(desk, TooMany, (), "settle m")


class Deeds(Held):
    def test_written_out(self):
        desk = Desk()
        for row, answer in (("settle elk", "elk"), ("settle fox", "fox"), ("build fox elk 3", "elk+fox"),
                            ("settle bee", "bee"), ("build bee elk 10", "bee+elk+fox"), ("build bee fox 1", "-"),
                            ("shut fox bee", "-"), ("shut elk fox", "bee+elk fox"), ("idle", "bee-fox:1 elk-fox:3"),
                            ("reopen bee fox", "bee+elk+fox"), ("drop fox elk", "-"), ("undo", "-"),
                            ("leave elk", "bee+fox"), ("now", "bee: fox 1 / fox:"), ("undo", "bee+elk+fox"),
                            ("drop bee fox", "bee+elk fox"),
                            ("undo", "bee+elk+fox"), ("undo", "bee+elk fox"), ("idle", "bee-fox:1 elk-fox:3"),
                            ("days", "settle elk / settle fox / build fox elk 3 / settle bee / build bee elk 10 / "
                                     "build bee fox 1 / shut fox bee / shut elk fox")):
            self.assertEqual(desk.say(row), answer, row)

    def test_many_deeds_against_the_works(self):
        draw = random.Random(95)
        for net in itertools.chain(drawn_nets(26), drawn_strong(26, 12)):
            desk, replay = desk_at(net), Replay(net)
            for deed in drawn_deeds(draw, replay, 30):
                answer = replay.do(*deed)
                self.assertEqual(told_at(desk, " ".join(map(str, deed))),
                                 answer if isinstance(answer, tuple) else sides(answer), deed)
                days = " / ".join(" ".join(map(str, deed)) for deed in replay.done) or "-"
                idle = listed(f"{one}-{other}:{strength}" for one, other, strength in replay.idle())
                now = show_net(replay.standing()[0]).replace("\n", " / ") or "-"
                self.assertEqual(standing(desk), (now, idle, days))

    def test_refused_as_the_works_refuses(self):
        desk = desk_at(TOWN)
        desk.say("shut a b")
        for row, kind, values in (
                ("settle A", NoPlace, ("A",)), ("settle 1", NoPlace, ("1",)),
                ("settle toolongaa", NoPlace, ("toolongaa",)), ("settle a", OldPlace, ("a",)),
                ("leave z", NoPlace, ("z",)), ("leave -", NoPlace, ("-",)),
                ("build z a 1", NoPlace, ("z",)), ("build a z 1", NoPlace, ("z",)), ("build y z 0", NoPlace, ("y",)),
                ("build a a 0", SamePlace, ("a",)), ("build b a 0", OldLine, ("b", "a")),
                ("build h i 3", OldLine, ("h", "i")), ("build a k 0", NoStrength, (0,)),
                ("build a k 1000000001", NoStrength, (1000000001,)),
                ("build a k 9999999999", NoStrength, (9999999999,)),
                ("drop a k", NoLine, ("a", "k")), ("drop a a", NoLine, ("a", "a")), ("drop + -", NoLine, ("+", "-")),
                ("shut b a", NoLine, ("b", "a")), ("reopen a d", NoLine, ("a", "d"))):
            self.refused(desk, kind, values, row)

    def test_words_without_signs(self):
        desk = desk_at(TOWN)
        for row, kind, values in (
                ("settle ", NoPlace, ("",)), ("leave ", NoPlace, ("",)), ("build  a 1", NoPlace, ("",)),
                ("build a  1", NoPlace, ("",)), ("build   1", NoPlace, ("",)), ("drop a ", NoLine, ("a", "")),
                ("drop  a", NoLine, ("", "a")), ("drop  ", NoLine, ("", "")), ("shut  ", NoLine, ("", "")),
                ("reopen a ", NoLine, ("a", "")), ("between a ", NoPlace, ("",)), ("between  a", NoPlace, ("",)),
                ("between  ", NoPlace, ("",)), ("off  a b", NoPlace, ("",)), ("off a  b", NoLine, ("", "b")),
                ("off a b ", NoLine, ("b", "")), ("off a  ", NoLine, ("", "")), ("off   ", NoPlace, ("",))):
            self.refused(desk, kind, values, row)

    def test_strengths(self):
        for strength in ("1", "9", "10", "1000000000"):
            desk = desk_at(plain_net("ab", []))
            self.assertEqual(desk.say("build b a " + strength), "a+b")
            self.assertEqual(standing(desk), (f"a: b {strength} / b:", "-", f"build b a {strength}"))


class NoRows(Held):
    def desks(self):
        desk = desk_at(TOWN)
        desk.say("shut a b")
        desk.say("settle l")
        return [Desk(), desk]

    def test_other_words(self):
        for desk in self.desks():
            for row in ("", " ", "  ", "-", "a", "Now", "NOW", "no", "nows", "now.", "stay a", "tell", "say now",
                        "settled a", "Settle a", "SETTLE a", "day", "between", "held", "routes a b", "three!", "tree1",
                        "held1", "trees2", "offs a a b", "PLACE", "begin", "open a b", "build-a-b-1", "settle+a",
                        "undo;", "0"):
                self.no_row(desk, row)

    def test_words_lacking_or_more(self):
        lengths = {"settle": 1, "leave": 1, "drop": 2, "shut": 2, "reopen": 2, "undo": 0, "now": 0, "idle": 0,
                   "days": 0, "between": 2, "tree": 0, "lone": 0, "pairs": 0, "rings": 0, "three": 0, "build": 3,
                   "held": 1, "fewest": 1, "oneway": 1, "trees": 1}
        for desk in self.desks():
            for word, many in lengths.items():
                for other in set(range(6)) - {many}:
                    self.no_row(desk, " ".join([word] + ["a", "b", "2", "2", "2"][:other]))
                    self.no_row(desk, " ".join([word] + ["2", "2", "2", "2", "2"][:other]))
            for row in ("off", "off a", "off a b", "off a a b c", "off a a b c d e", "off ", "off  ", "off a a b "):
                self.no_row(desk, row)

    def test_blanks_ahead_behind_and_between(self):
        rows = ["settle x", "leave a", "build a c 1", "drop a d", "shut a d", "reopen a b", "undo", "idle", "days",
                "between a b", "off a a d"] + ASKING
        for desk in self.desks():
            for row in rows:
                for spoilt in (" " + row, row + " ", "  " + row):
                    self.no_row(desk, spoilt)
                # Behind `off` two more blanks would be two more words: a line of places without signs.
                if not row.startswith("off"):
                    self.no_row(desk, row + "  ")
                    self.no_row(desk, row.replace(" ", "  ", 1) + " ")
                for sign in ("\n", "\n\n"):
                    self.no_row(desk, row + sign)
                    self.no_row(desk, sign + row)
                    self.no_row(desk, row[:2] + sign + row[2:])
                    if " " in row:
                        self.no_row(desk, row.replace(" ", sign, 1))
                        self.no_row(desk, row.replace(" ", " " + sign, 1))
            for row in ("held  2", "trees  2", "oneway  1", "fewest  3", "drop a  d", "between a  b", "settle  x"):
                self.no_row(desk, row)

    def test_figures(self):
        bounds = {"held": (1, 9), "fewest": (2, 5), "oneway": (1, 3), "trees": (1, 5)}
        for desk in self.desks():
            for word, (least, greatest) in bounds.items():
                for k in set(range(-2, 32)) - set(range(least, greatest + 1)):
                    self.no_row(desk, f"{word} {k}")
                for k in ("", "02", "2.0", "+2", "2 ", " 2", "two", "a", "K", "-", "2-3", "2,3", "_2", "22", "\u00b2",
                          "\u0662", "\uff12"):
                    self.no_row(desk, f"{word} {k}")

    def test_strengths_that_are_no_numbers(self):
        for desk in self.desks():
            for strength in ("", "a", "-1", "+1", "01", "00", "1.0", "1e3", "1_0", "1,0", "12345678901", "00000000001",
                             "STRENGTH", "\u00b2", "\u0663", "1\n", "0x1", "-"):
                self.no_row(desk, "build a k " + strength)
                # NoRow goes ahead of all else.
                self.no_row(desk, "build a a " + strength)
                self.no_row(desk, "build NO WHERE " + strength)

    def test_no_texts(self):
        for desk in self.desks():
            for thing in no_texts() + [["now"], ("settle", "x"), b"now", ["settle", "x"]]:
                self.no_row(desk, thing)

    def test_a_refused_row_is_no_deed(self):
        desk = desk_at(plain_net("ab", []))
        desk.say("build a b 2")
        for row in ("settle a", "settle  c", "undo ", "begin", "begin q", "build a b 1", "build a b x", None):
            self.assertIsInstance(told_at(desk, row), tuple)
        self.assertEqual(desk.say("undo"), "a b")
        self.refused(desk, NoDeed, (), "undo")


def expected(net, row):
    """What an asking row is answered with, put together from the functions of the stages."""
    word, *rest = row.split(" ")
    line = "{}-{}".format
    number = "{}-{}:{}".format
    if word == "now":
        return show_net(net).replace("\n", " / ") or "-"
    if word == "tree":
        return listed(number(*cut[:3]) + ":" + "+".join(cut[3]) for cut in cut_tree(net))
    if word == "lone":
        return listed(line(*one) for one in lone_lines(net))
    if word == "pairs":
        return listed(line(*one) + "&" + line(*other) for one, other in parting_pairs(net))
    if word == "rings":
        return listed("&".join(line(*one) for one in lines) + ":" + ",".join("+".join(group) for group in groups)
                      for lines, groups in rings_in(net))
    if word == "three":
        return sides(held_by_three(net))
    if word == "between":
        routes = listed(f"{many}:" + "+".join(places) for many, places in routes_between(net, *rest))
        return f"{most_between(net, *rest)} / {routes} / " + "+".join(side_between(net, *rest))
    if word == "off":
        return "+".join(cut_off(net, list(zip(rest[1::2], rest[2::2])), rest[0])) or "-"
    k = int(rest[0])
    if word == "held":
        return sides(held_by(net, k))
    if word == "fewest":
        return listed(number(*one) for one in new_lines(net, k)) + " / " + sides(lacking_groups(net, k))
    if word == "oneway":
        plan = one_way(net, k)
        return listed(f"{one}>{other}:{plan[one][other]}" for one in sorted(plan) for other in sorted(plan[one]))
    trees = listed("&".join(line(*one) for one in tree) or "." for tree in trees_in(net, k))
    return trees + " / " + sides(parting_of(net, k) or [])


class Asking(Held):
    def test_written_out(self):
        desk = Desk()
        desk.say("begin " + ELK)
        for row, answer in (("between elk ram", "3 / 2:elk+owl+ram 1:elk+fox+owl+ram / elk+fox"),
                            ("between fox elk", "4 / 3:fox+elk 1:fox+owl+elk / fox"),
                            ("held 4", "elk+fox owl+ram"), ("held 9", "elk fox owl+ram"), ("held 1", "elk+fox+owl+ram"),
                            ("lone", "owl-ram"), ("off elk owl ram", "ram"), ("off elk fox elk owl fox", "fox"),
                            ("off ram elk fox elk fox", "-"), ("off fox fox elk owl fox owl fox", "elk+owl+ram"),
                            ("pairs", "elk-fox&elk-owl elk-fox&fox-owl elk-owl&fox-owl"),
                            ("rings", "elk-fox&elk-owl&fox-owl:elk,owl+ram,fox"), ("three", "elk fox owl ram"),
                            ("fewest 2", "- / -"), ("fewest 3", "- / -"), ("now", ELK), ("idle", "-"), ("days", "-")):
            self.assertEqual(desk.say(row), answer, row)
        desk.say("begin a: b 3 / b:")
        for row, answer in (("tree", "a-b:3:a"), ("fewest 5", "a-b:2 / a b"), ("fewest 4", "a-b:1 / a b"),
                            ("trees 2", "a-b a-b / -"), ("trees 5", "a-b a-b a-b / a b"),
                            ("trees 3", "a-b a-b a-b / -"),
                            ("between b a", "3 / 3:b+a / b"), ("held 3", "a+b"), ("held 4", "a b"), ("rings", "-"),
                            ("three", "a b"), ("lone", "a-b"), ("pairs", "-"), ("off b a b", "a")):
            self.assertEqual(desk.say(row), answer, row)
        desk.say("begin a: b 2 / b:")
        self.assertEqual(desk.say("oneway 1"), "a>b:1 b>a:1")
        desk.say("begin a: / b:")
        for row, answer in (("between a b", "0 / - / a"), ("tree", "a-b:0:a"), ("trees 1", "- / a b"),
                            ("fewest 2", "a-b:2 / a b"), ("held 1", "a b"), ("lone", "-"), ("three", "a b")):
            self.assertEqual(desk.say(row), answer, row)

    def test_lists_without_things(self):
        for net in ({}, {"a": {}}):
            desk = desk_at(net)
            groups = "a" if net else "-"
            for row in ("tree", "lone", "pairs", "rings", "idle", "days", "oneway 1", "oneway 2", "oneway 3"):
                self.assertEqual(desk.say(row), "-", row)
            for row in ["three"] + [f"held {k}" for k in range(1, 10)]:
                self.assertEqual(desk.say(row), groups, row)
            for k in range(2, 6):
                self.assertEqual(desk.say(f"fewest {k}"), "- / -")
            for k in range(1, 6):
                self.assertEqual(desk.say(f"trees {k}"), " ".join(["."] * k) + " / -")

    def test_rows_against_the_functions(self):
        for net in some_nets():
            desk = desk_at(net)
            ahead = standing(desk)
            for row in ASKING:
                self.assertEqual(told_at(desk, row), told_by(expected, net, row), (net, row))
            self.assertEqual(standing(desk), ahead)

    def test_between_and_off(self):
        for net in itertools.chain(round_nets(), drawn_nets(39), drawn_strong(39, 8)):
            desk = desk_at(net)
            places = mixed(net)[:4] + ["x", "A"]
            for one, other in itertools.product(places, repeat=2):
                for row in (f"between {one} {other}", f"off {one} {one} {other}", f"off {other} {one} {other}"):
                    self.assertEqual(told_at(desk, row), told_by(expected, net, row), (net, row))
            lines = [" ".join(mixed(line, at)) for at, line in enumerate(bare_lines(net))]
            for place in places:
                for many in range(1, len(lines) + 1, 3):
                    for some in (lines[:many], lines[-many:], mixed(lines, many)[:many] + lines[:1], lines + ["A B"]):
                        row = f"off {place} " + " ".join(some)
                        self.assertEqual(told_at(desk, row), told_by(expected, net, row), (net, row))

    def test_refused_as_the_functions_refuse(self):
        desk = desk_at(plain_net("abcd", [("a", "b", 2), ("b", "c", 1), ("c", "d", 2)]))
        desk.say("shut b c")
        for row, kind, values in (
                ("between x y", NoPlace, ("x",)), ("between a y", NoPlace, ("y",)), ("between x x", NoPlace, ("x",)),
                ("between a a", SamePlace, ("a",)), ("off x b c", NoPlace, ("x",)), ("off a b c", NoLine, ("b", "c")),
                ("off a b a a c c d", NoLine, ("a", "c")), ("off a d c c b b b", NoLine, ("c", "b")),
                ("oneway 1", TooWeak, (["a", "b"],)), ("oneway 3", TooWeak, (["a"],))):
            self.refused(desk, kind, values, row)

    def test_of_the_net_that_stands(self):
        draw = random.Random(96)
        for net in drawn_strong(26, 7):
            desk, replay = desk_at(net), Replay(net)
            for at, deed in enumerate(drawn_deeds(draw, replay, 30)):
                replay.do(*deed)
                told_at(desk, " ".join(map(str, deed)))
                for row in ASKING[at % 3::3]:
                    self.assertEqual(told_at(desk, row), told_by(expected, replay.standing()[0], row), row)

    def test_a_refusals_side_is_the_askers_own(self):
        desk = desk_at(plain_net("abc", [("a", "b", 2)]))
        first, second = refusal_of(desk.say, "oneway 2"), refusal_of(desk.say, "oneway 2")
        spoil(first.side)
        self.assertEqual(second.side, ["a"])
        self.assertEqual(refusal_of(desk.say, "oneway 2").side, ["a"])


class TwoDesks(Held):
    def test_unlike_deeds_and_equal_nets(self):
        draw = random.Random(97)
        for net in itertools.chain(round_nets(), drawn_strong(26, 12)):
            one, replay = Desk(), Replay({})
            one.say("begin -")
            for deed in drawn_deeds(draw, replay, 15):
                replay.do(*deed)
                told_at(one, " ".join(map(str, deed)))
            for place in mixed(replay.standing()[0]):
                one.say("leave " + place)
            for place in mixed(net, 1):
                one.say("settle " + place)
            for here, there in mixed(bare_lines(net), 2):
                one.say(f"build {there} {here} {net[here][there]}")
            for here, there in bare_lines(net)[::2]:
                one.say(f"shut {here} {there}")
                one.say(draw.choice(("undo", f"reopen {there} {here}")))
            other = desk_at(net)
            places = mixed(net, 3)[:3]
            rows = ASKING + [f"between {here} {there}" for here, there in itertools.product(places, repeat=2)]
            rows += [f"off {here} {there} {here}" for here, there in itertools.product(places, repeat=2)]
            for row in rows:
                self.assertEqual(told_at(one, row), told_at(other, row), (net, row))

    def test_lines_under_repair_change_no_answer(self):
        net = plain_net("abcde", ring_of(list("abcde")))
        one, other = desk_at(full_net("abcde", 1)), desk_at(net)
        for here, there in itertools.combinations("abcde", 2):
            if there not in net[here]:
                one.say(f"shut {here} {there}")
        self.assertNotEqual(one.say("idle"), other.say("idle"))
        for row in ASKING:
            self.assertEqual(told_at(one, row), told_at(other, row), row)

    def test_nothing_to_do_with_one_another(self):
        one, other = Desk(), Desk()
        one.say("begin " + ELK)
        self.assertEqual(standing(other), ("-", "-", "-"))
        other.say("begin " + ELK)
        other.say("shut elk fox")
        self.assertEqual(standing(one), (ELK, "-", "-"))
        self.refused(one, NoDeed, (), "undo")
        self.refused(one, NoLine, ("elk", "fox"), "reopen elk fox")

    def test_answers_are_texts(self):
        desk = Desk()
        for row in ["begin " + ELK, "settle x", "leave x", "undo", "drop elk fox", "shut elk owl", "reopen elk owl",
                    "build elk fox 2", "idle", "days", "between elk fox", "off elk elk fox"] + ASKING:
            answer = told_at(desk, row)
            if not isinstance(answer, tuple):
                self.assertIs(type(answer), str)
                self.assertNotIn("\n", answer)


if __name__ == "__main__":
    unittest.main()
