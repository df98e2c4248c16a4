"""A works: its deeds, their refusals, what is undone, and what is told: points 91 to 94."""

import copy
import random
import unittest

from spareline.errors import NoDeed, NoLine, NoPlace, NoStrength, OldLine, OldPlace, SamePlace, TooMany
from spareline.nets import groups_in, made_net
from spareline.texts import read_net, show_net
from spareline.works import Works
from tests.helper import (THIRTEEN, TOWN, TWELVE, Replay, answers_freshly, drawn_deeds, drawn_nets, drawn_strong,
                          full_net, no_names, no_strengths, plain_net, refusal_of, refuses, spoil, turned, values_of)


def told_by(works):
    """All that a works tells without changing."""
    return works.now(), works.idle(), works.days()


def do(works, word, *told):
    """The groups with which a deed is answered, or its refusal's name and values."""
    deeds = {"settle": works.settle, "leave": works.leave, "build": works.build, "drop": works.drop,
             "shut": works.shut, "reopen": works.reopen, "undo": works.undo}
    answers = []
    error = refusal_of(lambda: answers.append(deeds[word](*told)))
    return answers[0] if error is None else (type(error).__name__, values_of(error))


def repaired():
    """A works with lines in the net and under repair: a ring of four, one of whose lines rests."""
    works = Works(read_net("a: b 3, d 1\nb: c 7\nc: d 2\nd:"))
    works.shut("d", "a")
    return works


class Held(unittest.TestCase):
    def refused(self, works, kind, values, call, *handed):
        """Holds a deed to its refusal, and the works to being as it was."""
        ahead = copy.deepcopy(told_by(works))
        refuses(self, kind, values, call, *handed)
        self.assertEqual(told_by(works), ahead)


class Settle(Held):
    def test_a_place_without_lines(self):
        works = Works({})
        self.assertEqual(works.settle("elk"), [["elk"]])
        self.assertEqual(works.settle("bee"), [["bee"]])
        self.assertEqual(works.now(), {"elk": {}, "bee": {}})
        self.assertEqual(works.days(), [("settle", "elk"), ("settle", "bee")])
        works = Works(TOWN)
        self.assertEqual(works.settle("zzzzzzzz"), [["zzzzzzzz"]])
        self.assertEqual(works.now(), dict(TOWN, zzzzzzzz={}))

    def test_no_name(self):
        for works in (Works({}), Works(TOWN), Works(full_net(TWELVE, 1))):
            for thing in no_names():
                self.refused(works, NoPlace, (thing,), works.settle, thing)

    def test_old_places_and_too_many(self):
        works = Works(full_net(TWELVE[:11], 1))
        self.refused(works, OldPlace, ("c",), works.settle, "c")
        self.assertEqual(works.settle("m"), [["m"]])
        for place in TWELVE[:11] + ["m"]:
            self.refused(works, OldPlace, (place,), works.settle, place)
        for place in ("l", "aa", "zzzzzzzz"):
            self.refused(works, TooMany, (), works.settle, place)
        works.leave("c")
        self.assertEqual(works.settle("l"), [["l"]])
        self.refused(works, TooMany, (), works.settle, "c")

    def test_settled_again_a_place_has_no_lines(self):
        works = repaired()
        works.leave("d")
        self.assertEqual(works.settle("d"), [["d"]])
        self.assertEqual((works.now()["d"], works.idle()), ({}, []))
        self.refused(works, NoLine, ("d", "a"), works.reopen, "d", "a")


class Leave(Held):
    def test_its_lines_go_too(self):
        works = Works(read_net("a: b 3, c 1\nb: c 2\nc: d 5\nd:"))
        self.assertEqual(works.leave("c"), [["a", "b"], ["d"]])
        self.assertEqual(works.now(), {"a": {"b": 3}, "b": {"a": 3}, "d": {}})
        self.assertEqual(works.leave("d"), [])
        self.assertEqual(works.leave("a"), [["b"]])
        self.assertEqual(works.leave("b"), [])
        self.assertEqual(works.now(), {})

    def test_lines_under_repair_go_too(self):
        for place in "ad":
            works = repaired()
            works.shut("b", "c")
            self.assertEqual(works.idle(), [("a", "d", 1), ("b", "c", 7)])
            works.leave(place)
            self.assertEqual(works.idle(), [("b", "c", 7)])
            self.refused(works, NoLine, ("a", "d"), works.reopen, "a", "d")
            self.refused(works, NoLine, ("a", "d"), works.drop, "a", "d")

    def test_no_such_place(self):
        works = repaired()
        for place in ("", "e", "A", "ab", "a ", "a\n", "toolonganame", "+"):
            self.refused(works, NoPlace, (place,), works.leave, place)
        works.leave("a")
        self.refused(works, NoPlace, ("a",), works.leave, "a")
        works = Works({})
        self.refused(works, NoPlace, ("a",), works.leave, "a")


class Build(Held):
    def test_in_either_order(self):
        works = Works(plain_net("abc", []))
        self.assertEqual(works.build("b", "a", 1), [["a", "b"]])
        self.assertEqual(works.build("a", "c", 10 ** 9), [["a", "b", "c"]])
        self.assertEqual(works.build("b", "c", 5), [])
        self.assertEqual(show_net(works.now()), "a: b 1, c 1000000000\nb: c 5\nc:")
        self.assertEqual(works.days(), [("build", "b", "a", 1), ("build", "a", "c", 10 ** 9), ("build", "b", "c", 5)])

    def test_no_place_then_same_place(self):
        works = repaired()
        for place in ("", "e", "A", "ab", "toolonganame"):
            for strength in [1] + no_strengths()[:9]:
                self.refused(works, NoPlace, (place,), works.build, place, "a", strength)
                self.refused(works, NoPlace, (place,), works.build, "a", place, strength)
                self.refused(works, NoPlace, (place,), works.build, place, "Q", strength)
                self.refused(works, NoPlace, (place,), works.build, place, place, strength)
        for place in "abcd":
            for strength in [1] + no_strengths():
                self.refused(works, SamePlace, (place,), works.build, place, place, strength)

    def test_old_lines_in_the_net_and_under_repair(self):
        works = repaired()
        for one, other in ("ab", "ba", "bc", "cb", "cd", "dc", "ad", "da"):
            for strength in [1] + no_strengths():
                self.refused(works, OldLine, (one, other), works.build, one, other, strength)
        works.drop("a", "d")
        self.assertEqual(works.build("d", "a", 4), [])
        self.assertEqual(works.idle(), [])
        self.assertEqual(works.now()["a"], {"b": 3, "d": 4})

    def test_no_strength(self):
        works = repaired()
        for strength in no_strengths():
            self.refused(works, NoStrength, (strength,), works.build, "a", "c", strength)
            self.refused(works, NoStrength, (strength,), works.build, "d", "b", strength)


class DropShutReopen(Held):
    def test_a_line_dropped(self):
        works = Works(read_net("a: b 3, c 1\nb: c 2\nc: d 5\nd:"))
        self.assertEqual(works.drop("b", "a"), [])
        self.assertEqual(works.drop("c", "d"), [["a", "b", "c"], ["d"]])
        self.assertEqual(show_net(works.now()), "a: c 1\nb: c 2\nc:\nd:")
        self.assertEqual(works.days(), [("drop", "b", "a"), ("drop", "c", "d")])

    def test_a_line_under_repair_dropped(self):
        for pair in ("ad", "da"):
            works = repaired()
            net = works.now()
            self.assertEqual(works.drop(*pair), [])
            self.assertEqual((works.now(), works.idle()), (net, []))
            self.refused(works, NoLine, tuple(pair), works.reopen, *pair)
            self.refused(works, NoLine, tuple(pair), works.drop, *pair)
            self.assertEqual(works.undo(), [])
            self.assertEqual(works.idle(), [("a", "d", 1)])

    def test_shut_and_reopened(self):
        works = Works(read_net("a: b 3, c 1\nb: c 2\nc: d 5\nd:"))
        self.assertEqual(works.shut("d", "c"), [["a", "b", "c"], ["d"]])
        self.assertEqual(works.shut("a", "b"), [])
        self.assertEqual(works.idle(), [("a", "b", 3), ("c", "d", 5)])
        self.assertEqual(show_net(works.now()), "a: c 1\nb: c 2\nc:\nd:")
        self.assertEqual(works.reopen("c", "d"), [["a", "b", "c", "d"]])
        self.assertEqual(works.reopen("b", "a"), [])
        self.assertEqual(show_net(works.now()), "a: b 3, c 1\nb: c 2\nc: d 5\nd:")
        self.assertEqual(works.idle(), [])
        self.assertEqual(works.days(), [("shut", "d", "c"), ("shut", "a", "b"), ("reopen", "c", "d"),
                                        ("reopen", "b", "a")])

    def test_no_line(self):
        works = repaired()
        for pair in (("a", "c"), ("c", "a"), ("a", "a"), ("a", "e"), ("e", "a"), ("", ""), ("a", ""), ("", "a"),
                     ("A", "B"), ("x", "x"), ("a b", "c")):
            for call in (works.drop, works.shut, works.reopen):
                self.refused(works, NoLine, pair, call, *pair)
        for pair in (("a", "d"), ("d", "a")):
            self.refused(works, NoLine, pair, works.shut, *pair)
        for pair in (("a", "b"), ("b", "a"), ("c", "d")):
            self.refused(works, NoLine, pair, works.reopen, *pair)

    def test_great_strengths_are_kept(self):
        # What is told by a call may be handed on: sums of strengths may be greater than one that is handed in.
        works = Works({"a": {"b": 7 * 10 ** 9}, "b": {"a": 7 * 10 ** 9}})
        works.shut("b", "a")
        self.assertEqual(works.idle(), [("a", "b", 7 * 10 ** 9)])
        self.assertEqual(works.reopen("b", "a"), [["a", "b"]])
        self.assertEqual(works.now(), {"a": {"b": 7 * 10 ** 9}, "b": {"a": 7 * 10 ** 9}})


class Undo(Held):
    def test_no_deed(self):
        for works in (Works({}), Works(TOWN)):
            self.refused(works, NoDeed, (), works.undo)
            refusal_of(works.settle, "A")
            self.refused(works, NoDeed, (), works.undo)
            works.settle("x")
            works.undo()
            self.refused(works, NoDeed, (), works.undo)
            self.refused(works, NoDeed, (), works.undo)

    def test_each_kind_undone_to_the_first(self):
        works = Works(read_net("a: b 3, c 1\nb: c 2\nc: d 5\nd:"))
        deeds = [("settle", "e"), ("build", "e", "a", 4), ("shut", "c", "d"), ("shut", "a", "c"), ("reopen", "d", "c"),
                 ("drop", "c", "a"), ("drop", "b", "c"), ("leave", "a"), ("leave", "c"), ("settle", "a"),
                 ("build", "a", "b", 9), ("shut", "b", "a"), ("leave", "a")]
        ahead = []
        for deed in deeds:
            ahead.append(told_by(works))
            self.assertIs(type(do(works, *deed)), list)
            self.assertEqual(works.days(), ahead[-1][2] + [deed])
        for state in reversed(ahead):
            here = groups_in(works.now())
            self.assertEqual(works.undo(), [group for group in groups_in(state[0]) if group not in here])
            self.assertEqual(told_by(works), state)
        self.refused(works, NoDeed, (), works.undo)

    def test_only_deeds_that_were_done_are_undone(self):
        works = Works(plain_net("ab", []))
        works.build("a", "b", 2)
        for word, *told in (("build", "b", "a", 2), ("settle", "a"), ("leave", "c"), ("drop", "a", "a"),
                            ("reopen", "a", "b"), ("shut", "", "")):
            self.assertIs(type(do(works, word, *told)), tuple)
        self.assertEqual(works.days(), [("build", "a", "b", 2)])
        self.assertEqual(works.undo(), [["a"], ["b"]])
        self.assertEqual(told_by(works), (plain_net("ab", []), [], []))

    def test_what_was_undone_leaves_nothing_behind(self):
        works = repaired()
        works.undo()
        works.build("a", "c", 6)
        works.undo()
        works.shut("a", "b")
        self.assertEqual(works.days(), [("shut", "a", "b")])
        self.assertEqual(works.idle(), [("a", "b", 3)])
        self.assertEqual(show_net(works.now()), "a: d 1\nb: c 7\nc: d 2\nd:")
        self.assertEqual(do(works, "reopen", "a", "d"), ("NoLine", ("a", "d")))


class Against(Held):
    def test_many_deeds_against_a_replay(self):
        draw = random.Random(91)
        for net in list(drawn_nets(39)) + list(drawn_strong(30, 12)):
            works, replay = Works(net), Replay(net)
            for deed in drawn_deeds(draw, replay, 40):
                answer = do(works, *deed)
                self.assertEqual(answer, replay.do(*deed), deed)
                self.assertEqual(works.now(), replay.standing()[0])
                self.assertEqual(works.idle(), replay.idle())
                self.assertEqual(works.days(), replay.done)

    def test_four_hundred_deeds_and_back(self):
        draw = random.Random(92)
        works, replay = Works(TOWN), Replay(TOWN)
        while len(replay.done) < 400:
            for deed in drawn_deeds(draw, replay, 1):
                if deed[0] != "undo":
                    self.assertEqual(do(works, *deed), replay.do(*deed))
        self.assertEqual(works.days(), replay.done)
        for turn in range(400):
            self.assertEqual(works.undo(), replay.do("undo"))
            self.assertEqual((works.now(), works.idle()), (replay.standing()[0], replay.idle()))
        self.assertEqual(works.now(), TOWN)

    def test_the_net_is_what_the_deeds_that_stand_make(self):
        draw = random.Random(94)
        for net in drawn_strong(26, 8):
            works, replay = Works(net), Replay(net)
            for deed in drawn_deeds(draw, replay, 60):
                do(works, *deed)
                replay.do(*deed)
            anew = Works(net)
            for deed in works.days():
                self.assertIs(type(do(anew, *deed)), list)
            self.assertEqual(told_by(anew), told_by(works))


class TheAskersOwn(Held):
    def test_what_is_told_may_be_changed(self):
        draw = random.Random(4)
        for net in drawn_strong(13, 8):
            works, replay = Works(net), Replay(net)
            for deed in drawn_deeds(draw, replay, 25):
                answer = do(works, *deed)
                self.assertEqual(answer, replay.do(*deed))
                spoil(answer)
                for call in (works.now, works.idle, works.days):
                    answers_freshly(self, call)
                self.assertEqual((works.now(), works.idle()), (replay.standing()[0], replay.idle()))

    def test_the_net_that_was_handed_in(self):
        net = read_net("a: b 3, c 1\nb: c 2\nc:")
        kept = copy.deepcopy(net)
        works = Works(net)
        works.shut("a", "b")
        works.settle("d")
        works.leave("c")
        self.assertEqual(net, kept)
        works.undo()
        works.undo()
        works.undo()
        spoil(net)
        self.assertEqual(told_by(works), (kept, [], []))
        self.assertEqual(works.shut("a", "b"), [])
        self.assertEqual(works.idle(), [("a", "b", 3)])

    def test_two_works_have_nothing_to_do_with_one_another(self):
        net = read_net("a: b 3, c 1\nb: c 2\nc:")
        one, other = Works(net), Works(net)
        third = Works(one.now())
        one.drop("a", "b")
        one.shut("a", "c")
        for works in (other, third):
            self.assertEqual(told_by(works), (net, [], []))
            self.refused(works, NoDeed, (), works.undo)
        other.leave("a")
        self.assertEqual(one.idle(), [("a", "c", 1)])
        self.assertEqual(one.undo(), [["a", "b", "c"]])

    def test_equal_nets(self):
        draw = random.Random(2)
        for net in drawn_strong(13, 8):
            one, other, replay = Works(net), Works(turned(net)), Replay(net)
            for deed in drawn_deeds(draw, replay, 25):
                replay.do(*deed)
                self.assertEqual(do(one, *deed), do(other, *deed))
                self.assertEqual(told_by(one), told_by(other))

    def test_kinds(self):
        works = Works(made_net(THIRTEEN[:3], [("c", "a", 2)]))
        for answer in (works.settle("d"), works.build("d", "a", 1), works.shut("a", "c"), works.undo(), works.idle(),
                       works.days()):
            self.assertIs(type(answer), list)
        self.assertTrue(all(type(deed) is tuple for deed in works.days()))
        works.shut("a", "c")
        self.assertTrue(all(type(line) is tuple for line in works.idle()))
        self.assertIs(type(works.now()), dict)


if __name__ == "__main__":
    unittest.main()
