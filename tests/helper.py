"""What several tests need: refusals taken apart, things of any kind, and nets to ask about."""

import copy
import itertools
import random

from spareline.errors import NetError

LETTERS = "abcdefghijklmnopqrstuvwxyz"
TWELVE = list("abcdefghijkl")
THIRTEEN = list("abcdefghijklm")
FIELDS = {
    "NoRow": ("row",),
    "NoPlace": ("place",),
    "OldPlace": ("place",),
    "SamePlace": ("place",),
    "NoLine": ("one", "other"),
    "OldLine": ("one", "other"),
    "NoStrength": ("strength",),
    "TooWeak": ("side",),
    "Odd": ("place",),
    "TooMany": (),
    "NoDeed": (),
}


def no_texts():
    """Things that are no texts, of every kind that is likely to be mistaken for one."""
    return [None, True, False, 0, 1, -1, 10 ** 9, 1.0, b"a", [], ["a"], (), ("a",), ("a", "b", 1), {},
            {"a": {}}, {"a"}, object(), str, len]


def no_names():
    texts = ["", "A", "aB", "Ab", "a1", "1", "0", " ", "a ", " a", "a b", "a\n", "\na", "\n", "a-b", "a:", "a_b",
             "abcdefghi", "abcdefghijklmnop", "\u00e4", "\u00df", "a\u0301", "\u0430", "`", "{", "a\x00", "a\t"]
    return texts + no_texts()


def no_strengths():
    return [None, True, False, 0, -1, -10 ** 9, 10 ** 9 + 1, 10 ** 12, 10 ** 30, 1.0, 2.5, "1", "", "a", b"1", [], [1],
            (), (1,), {}, {1: 1}, {1}, object(), int]


def refusal_of(call, *handed):
    """The error with which the call is refused; None where it is not."""
    try:
        call(*handed)
    except NetError as error:
        return error
    return None


def values_of(error):
    return tuple(getattr(error, field) for field in FIELDS[type(error).__name__])


def refuses(case, kind, values, call, *handed):
    """Holds the call to this very class and these very values, and to leaving alone what it was handed."""
    ahead = shape_of(handed)
    error = refusal_of(call, *handed)
    case.assertIs(type(error), kind)
    told = values_of(error)
    case.assertEqual(len(told), len(values))
    for value, asked in zip(told, values):
        case.assertIs(value, asked)
    case.assertEqual(shape_of(handed), ahead)


def shape_of(thing):
    """All that lists, tuples and dicts hold, the order of a dict's entries too."""
    if isinstance(thing, dict):
        return ("dict", [(shape_of(key), shape_of(thing[key])) for key in thing])
    if isinstance(thing, (list, tuple)):
        return (type(thing).__name__, [shape_of(part) for part in thing])
    return thing


def holders_in(thing):
    """Each list and dict in a thing, as often as it stands there."""
    if isinstance(thing, dict):
        return [thing] + [held for part in thing.values() for held in holders_in(part)]
    held = [holder for part in thing for holder in holders_in(part)] if isinstance(thing, (list, tuple)) else []
    return [thing] + held if isinstance(thing, list) else held


def spoil(thing):
    """Changes every list and dict in a thing, as an asker may do with what is the asker's own."""
    for holder in holders_in(thing):
        if isinstance(holder, dict):
            for key in list(holder):
                if isinstance(holder[key], int):
                    holder[key] += 5
            holder["spoilt"] = {}
        else:
            holder.append("spoilt")
            holder.reverse()


def answers_freshly(case, call, *handed):
    """Holds a call to point 4: it changes nothing, its answer is new and the asker's own, no holder is in it twice."""
    ahead = shape_of(handed)
    answer = call(*handed)
    case.assertEqual(shape_of(handed), ahead)
    kept = copy.deepcopy(answer)
    holders = [id(holder) for holder in holders_in(answer)]
    case.assertEqual(len(holders), len(set(holders)))
    case.assertFalse(set(holders) & set(id(holder) for holder in holders_in(handed)))
    spoil(answer)
    case.assertEqual(shape_of(handed), ahead)
    second = call(*handed)
    case.assertEqual(second, kept)
    spoil(handed)
    case.assertEqual(second, kept)


def plain_net(places, lines):
    """A net, made without the program."""
    net = {place: {} for place in places}
    for one, other, strength in lines:
        net[one][other] = strength
        net[other][one] = strength
    return net


def turned(net):
    """An equal net with all entries in the other order."""
    return {place: dict(reversed(list(net[place].items()))) for place in reversed(list(net))}


def small_nets():
    """All nets of up to four places of which each line is missing or one of two strengths."""
    for many in range(5):
        places = ["b", "aa", "a", "ab"][:many]
        pairs = list(itertools.combinations(places, 2))
        for strengths in itertools.product((0, 1, 7), repeat=len(pairs)):
            lines = [pair + (strength,) for pair, strength in zip(pairs, strengths) if strength]
            yield plain_net(places, lines)


def drawn_nets(many):
    """Nets of up to twelve places, thin and thick ones, always the same ones."""
    draw = random.Random(20)
    for turn in range(many):
        places = []
        while len(places) < turn % 13:
            name = "".join(draw.choice("abz") for sign in range(draw.randint(1, 8)))
            if name not in places:
                places.append(name)
        share = draw.choice((0, 1, 2, 5, 10))
        lines = [pair + (draw.choice((1, 2, 9, 10, 10 ** 9)),) for pair in itertools.combinations(places, 2)
                 if draw.randrange(10) < share]
        yield plain_net(places, lines)


def mixed(things, turn=0):
    """The same things in another order, always the same one for the same turn."""
    order = list(things)
    random.Random(turn).shuffle(order)
    return order


def drawn_arcs(many, most_places=6):
    """Arcs of two places on: unlike numbers there and back, numbers of 0, and ways that are not told."""
    draw = random.Random(21)
    for turn in range(many):
        places = draw.sample(["a", "ab", "b", "ba", "c", "zz", "zzzzzzzz"], 2 + turn % (most_places - 1))
        numbers = draw.choice(((0, 1), (0, 1, 2, 3), (1, 5, 10 ** 12), (0, 10 ** 12 - 1, 10 ** 12), (7,)))
        share = draw.choice((3, 6, 10))
        arcs = {place: {} for place in places}
        for here, there in mixed(itertools.permutations(places, 2), turn):
            if draw.randrange(10) < share:
                arcs[here][there] = draw.choice(numbers)
        yield arcs


def sides_of(places):
    """All sides, the empty one and that of all places too."""
    for many in range(len(places) + 1):
        for side in itertools.combinations(sorted(places), many):
            yield list(side)


def leaving(arcs, side):
    return sum(number for here in side for there, number in arcs[here].items() if there not in side)


def least_sides(arcs, ones, others):
    """By all sides tried one by one: the least amount that leaves a parting side, and all such sides."""
    tried = [(leaving(arcs, side), side) for side in sides_of(arcs)
             if set(ones) <= set(side) and not set(others) & set(side)]
    amount = min(tried)[0]
    return amount, [side for leaves, side in tried if leaves == amount]


def all_between(net):
    """By all sides tried one by one: what goes between any two places, told in either order."""
    between = {}
    for side in sides_of(net):
        crossing = leaving(net, side)
        for one in side:
            for other in net:
                if other not in side:
                    less = min(crossing, between.get((one, other), crossing))
                    between[one, other] = between[other, one] = less
    return between


def groups_by_joining(net):
    """The groups of a net, found by joining what lines join."""
    groups = {place: {place} for place in net}
    for one in net:
        for other in net[one]:
            both = groups[one] | groups[other]
            for place in both:
                groups[place] = both
    return sorted(sorted(group) for group in {tuple(sorted(group)) for group in groups.values()})


def without(net, lines):
    """The net with these lines out, told in either order, made without the program."""
    out = {frozenset(line) for line in lines}
    return {one: {other: net[one][other] for other in net[one] if frozenset((one, other)) not in out} for one in net}


def bare_lines(net):
    return sorted((one, other) for one in net for other in net[one] if one < other)


def ring_of(places):
    return [(one, other, 1) for one, other in zip(places, places[1:] + places[:1])]


# A ring of four, a ring of three that hangs by one line, a chain by itself, and a place by itself.
TOWN = plain_net("abcdefghijk", ring_of(list("badc")) + [("d", "e", 9)] + ring_of(list("egf"))
                 + [("h", "i", 2), ("i", "j", 10 ** 9)])


def all_nets_of_five():
    pairs = list(itertools.combinations("cebad", 2))
    for there in itertools.product((False, True), repeat=len(pairs)):
        yield plain_net("cebad", [pair + (1,) for pair, stands in zip(pairs, there) if stands])


def round_nets():
    """Nets of rings that have a place or a line in common, hang together or lie apart, up to twelve places."""
    places = mixed(TWELVE)
    for many in (3, 4, 7, 12):
        yield plain_net(places, ring_of(places[:many]))
    for many in (3, 5, 9):
        yield plain_net(places, ring_of(places[:many]) + ring_of(places[many - 1:]))
        yield plain_net(places, ring_of(places[:many]) + ring_of(places[many:]))
        yield plain_net(places, ring_of(places[:many]) + ring_of(places[many - 2:]))
        yield plain_net(places, ring_of(places) + [(places[0], places[many - 1], 1)])
    yield plain_net(places, ring_of(places) + [(places[at], places[at + 6], 1) for at in range(6)])
    yield TOWN


def nets_for_cuts():
    """All nets of up to five places, nets of rings, and thin and thick ones of up to twelve places."""
    yield from small_nets()
    yield from all_nets_of_five()
    yield from round_nets()
    yield from drawn_nets(52)


def counted(net, lines):
    return len(groups_by_joining(without(net, lines)))


def lone_by_counting(net):
    return [line for line in bare_lines(net) if counted(net, [line]) == counted(net, []) + 1]


def pairs_by_counting(net):
    lone = lone_by_counting(net)
    firm = [line for line in bare_lines(net) if line not in lone]
    many = counted(net, [])
    return [pair for pair in itertools.combinations(firm, 2) if counted(net, pair) == many + 1]


def restrengthened(net):
    """The same places and lines with other strengths."""
    return plain_net(net, [line + (10 ** 9 - 7 * at,) for at, line in enumerate(bare_lines(net))])


def drawn_strong(many, most_places=6):
    """Nets in which most places have a line, of small, of great and of mixed strengths."""
    draw = random.Random(53)
    for turn in range(many):
        names = ["a", "ab", "b", "ba", "c", "d", "zz", "zzzzzzzz", "e", "f", "g", "h"]
        places = draw.sample(names, turn % (most_places + 1))
        numbers = draw.choice(((1,), (1, 2), (1, 2, 3), (2, 4), (1, 1, 5), (6, 7), (1, 2, 10 ** 9),
                               (10 ** 9 - 1, 10 ** 9)))
        share = draw.choice((5, 8, 10))
        lines = [pair + (draw.choice(numbers),) for pair in itertools.combinations(places, 2)
                 if draw.randrange(10) < share]
        yield plain_net(places, lines)


def put_to(net, lines):
    """The net with as much put to its lines, or taken where it is below nought, made without the program."""
    strengths = {(one, other): net[one][other] for one, other in bare_lines(net)}
    for one, other, many in lines:
        line = tuple(sorted((one, other)))
        strengths[line] = strengths.get(line, 0) + many
    return plain_net(net, [line + (strength,) for line, strength in strengths.items() if strength])


def keeps_by_sides(net, k, place=None):
    """By all sides tried: whether any two places, other than the one told, have k routes."""
    for side in sides_of(net):
        if set(side) - {place} and set(net) - set(side) - {place} and leaving(net, side) < k:
            return False
    return True


def first_weak_side(net, places, k):
    """By all sides tried: the side told for the first two of the places that have less than k routes, or None."""
    between = all_between(net)
    for one, other in itertools.combinations(sorted(places), 2):
        if between[one, other] < k:
            return min(least_sides(net, [one], [other])[1], key=len)
    return None


def refuses_with_side(case, kind, side, call, *handed):
    """Holds the call to this very class, with a side equal to this one, and to leaving alone what it was handed."""
    ahead = shape_of(handed)
    error = refusal_of(call, *handed)
    case.assertIs(type(error), kind, handed)
    case.assertIs(type(error.side), list)
    case.assertEqual(error.side, side, handed)
    case.assertEqual(shape_of(handed), ahead)


def partings_of(places):
    """All ways to part the places into groups, one group of all of them among these."""
    if not places:
        yield []
        return
    for groups in partings_of(places[1:]):
        yield [[places[0]]] + groups
        for at, group in enumerate(groups):
            yield groups[:at] + [[places[0]] + group] + groups[at + 1:]


def between_groups(net, groups):
    """The strengths of all lines whose places are in unlike groups, summed."""
    at = {place: number for number, group in enumerate(groups) for place in group}
    return sum(net[one][other] for one, other in bare_lines(net) if at[one] != at[other])


def most_trees(net):
    """By all partings tried: how many trees can share no strand; none where nothing bounds them."""
    bounds = [between_groups(net, groups) // (len(groups) - 1) for groups in partings_of(sorted(net))
              if len(groups) > 1]
    return min(bounds) if bounds else None


def join_all(net, lines):
    """Whether lines join all places and close no ring, found by joining."""
    pieces = {place: {place} for place in net}
    for one, other in lines:
        if other in pieces[one]:
            return False
        both = pieces[one] | pieces[other]
        for place in both:
            pieces[place] = both
    return all(len(piece) == len(net) for piece in pieces.values())


def hold_trees(case, net, trees):
    """Holds trees to point 81: each one a tree, and no line in more of them than its strength."""
    case.assertIs(type(trees), list)
    used = {}
    for tree in trees:
        case.assertIs(type(tree), list)
        case.assertTrue(all(type(line) is tuple and len(line) == 2 for line in tree))
        case.assertEqual(tree, sorted(set(tree)))
        case.assertLessEqual(set(tree), set(bare_lines(net)))
        case.assertTrue(join_all(net, tree), (net, tree))
        for line in tree:
            used[line] = used.get(line, 0) + 1
    for one, other in used:
        case.assertLessEqual(used[one, other], net[one][other], (net, trees))


def hold_parting(case, net, groups, trees):
    """Holds groups to point 83: a parting of the net that has too few lines between for one tree more."""
    case.assertIs(type(groups), list)
    case.assertGreaterEqual(len(groups), 2)
    for group in groups:
        case.assertIs(type(group), list)
        case.assertTrue(group)
        case.assertEqual(group, sorted(group))
    case.assertEqual(groups, sorted(groups))
    case.assertEqual(sorted(place for group in groups for place in group), sorted(net))
    case.assertLess(between_groups(net, groups), (trees + 1) * (len(groups) - 1), (net, groups))


def full_net(places, strength):
    return plain_net(places, [pair + (strength,) for pair in itertools.combinations(places, 2)])


class Replay:
    """A works told by a plain list of deeds: each answer comes from doing all of them anew on the first net."""

    def __init__(self, net):
        self.first = copy.deepcopy(net)
        self.done = []

    def standing(self):
        places = set(self.first)
        lines = {frozenset(line): self.first[line[0]][line[1]] for line in bare_lines(self.first)}
        resting = {}
        for word, *told in self.done:
            line = frozenset(told[:2])
            if word == "settle":
                places.add(told[0])
            elif word == "leave":
                places.remove(told[0])
                lines = {line: lines[line] for line in lines if told[0] not in line}
                resting = {line: resting[line] for line in resting if told[0] not in line}
            elif word == "build":
                lines[line] = told[2]
            elif word == "drop":
                (lines if line in lines else resting).pop(line)
            elif word == "shut":
                resting[line] = lines.pop(line)
            else:
                lines[line] = resting.pop(line)
        return plain_net(places, [tuple(line) + (lines[line],) for line in lines]), resting

    def refusal(self, word, told):
        """The name of the refusal that is due, and its values; None where none is."""
        net, resting = self.standing()
        line = frozenset(told[:2])
        there = len(line) == 2 and line in [frozenset(pair) for pair in bare_lines(net)]
        if word == "settle":
            if not (isinstance(told[0], str) and 1 <= len(told[0]) <= 8 and set(told[0]) <= set(LETTERS)):
                return "NoPlace", told
            if told[0] in net:
                return "OldPlace", told
            return ("TooMany", ()) if len(net) >= 12 else None
        if word == "leave":
            return ("NoPlace", told) if told[0] not in net else None
        if word == "build":
            for place in told[:2]:
                if place not in net:
                    return "NoPlace", (place,)
            if told[0] == told[1]:
                return "SamePlace", told[:1]
            if there or line in resting:
                return "OldLine", told[:2]
            return ("NoStrength", told[2:]) if type(told[2]) is not int or not 1 <= told[2] <= 10 ** 9 else None
        if word == "undo":
            return ("NoDeed", ()) if not self.done else None
        stands = {"drop": there or line in resting, "shut": there, "reopen": line in resting}[word]
        return None if stands else ("NoLine", told)

    def do(self, word, *told):
        """The groups that are new, or the refusal's name and values."""
        refusal = self.refusal(word, told)
        if refusal is not None:
            return refusal
        ahead = groups_by_joining(self.standing()[0])
        if word == "undo":
            self.done.pop()
        else:
            self.done.append((word,) + told)
        return [group for group in groups_by_joining(self.standing()[0]) if group not in ahead]

    def idle(self):
        resting = self.standing()[1]
        return sorted(tuple(sorted(line)) + (resting[line],) for line in resting)


def drawn_deeds(draw, replay, many):
    """So many deeds, most of which can be done on what stands, but not all."""
    for turn in range(many):
        net, resting = replay.standing()
        names = sorted(net) + ["a", "b", "c", "new", "zzzzzzzz", "", "Q", "toolongaa"]
        word = draw.choice(("settle", "settle", "leave", "build", "build", "build", "build", "drop", "shut", "shut",
                            "reopen", "undo", "undo"))
        if word == "undo":
            yield ("undo",)
        elif word == "settle":
            signs = [draw.choice("abcd") for sign in range(draw.choice((1, 1, 2)))]
            yield word, "".join(signs) + draw.choice(("", "", "", "5"))
        elif word == "leave":
            yield word, draw.choice(names)
        else:
            lines = bare_lines(net) + [tuple(sorted(line)) for line in resting]
            pair = draw.choice(lines) if lines and draw.randrange(4) else (draw.choice(names), draw.choice(names))
            if word == "build" and len(net) > 1 and draw.randrange(4):
                pair = draw.sample(sorted(net), 2)
            pair = tuple(mixed(pair, draw.randrange(9)))
            yield (word,) + pair + ((draw.choice((0, 1, 1, 2, 3, 10 ** 9, 10 ** 9 + 1)),) if word == "build" else ())
