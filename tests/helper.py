"""What several tests need: refusals taken apart, things of any kind, and nets to ask about."""

import copy
import itertools
import random

from spareline.errors import NetError

LETTERS = "abcdefghijklmnopqrstuvwxyz"
TWELVE = list("abcdefghijkl")
THIRTEEN = list("abcdefghijklm")
FIELDS = {
    "NoRow": ("row",),
    "NoPlace": ("place",),
    "OldPlace": ("place",),
    "SamePlace": ("place",),
    "NoLine": ("one", "other"),
    "OldLine": ("one", "other"),
    "NoStrength": ("strength",),
    "TooWeak": ("side",),
    "Odd": ("place",),
    "TooMany": (),
    "NoDeed": (),
}


def no_texts():
    """Things that are no texts, of every kind that is likely to be mistaken for one."""
    return [None, True, False, 0, 1, -1, 10 ** 9, 1.0, b"a", [], ["a"], (), ("a",), ("a", "b", 1), {},
            {"a": {}}, {"a"}, object(), str, len]


def no_names():
    texts = ["", "A", "aB", "Ab", "a1", "1", "0", " ", "a ", " a", "a b", "a\n", "\na", "\n", "a-b", "a:", "a_b",
             "abcdefghi", "abcdefghijklmnop", "\u00e4", "\u00df", "a\u0301", "\u0430", "`", "{", "a\x00", "a\t"]
    return texts + no_texts()


def no_strengths():
    return [None, True, False, 0, -1, -10 ** 9, 10 ** 9 + 1, 10 ** 12, 10 ** 30, 1.0, 2.5, "1", "", "a", b"1", [], [1],
            (), (1,), {}, {1: 1}, {1}, object(), int]


def refusal_of(call, *handed):
    """The error with which the call is refused; None where it is not."""
    try:
        call(*handed)
    except NetError as error:
        return error
    return None


def values_of(error):
    return tuple(getattr(error, field) for field in FIELDS[type(error).__name__])


def refuses(case, kind, values, call, *handed):
    """Holds the call to this very class and these very values, and to leaving alone what it was handed."""
    ahead = shape_of(handed)
    error = refusal_of(call, *handed)
    case.assertIs(type(error), kind)
    told = values_of(error)
    case.assertEqual(len(told), len(values))
    for value, asked in zip(told, values):
        case.assertIs(value, asked)
    case.assertEqual(shape_of(handed), ahead)


def shape_of(thing):
    """All that lists, tuples and dicts hold, the order of a dict's entries too."""
    if isinstance(thing, dict):
        return ("dict", [(shape_of(key), shape_of(thing[key])) for key in thing])
    if isinstance(thing, (list, tuple)):
        return (type(thing).__name__, [shape_of(part) for part in thing])
    return thing


def holders_in(thing):
    """Each list and dict in a thing, as often as it stands there."""
    if isinstance(thing, dict):
        return [thing] + [held for part in thing.values() for held in holders_in(part)]
    held = [holder for part in thing for holder in holders_in(part)] if isinstance(thing, (list, tuple)) else []
    return [thing] + held if isinstance(thing, list) else held


def spoil(thing):
    """Changes every list and dict in a thing, as an asker may do with what is the asker's own."""
    for holder in holders_in(thing):
        if isinstance(holder, dict):
            for key in list(holder):
                if isinstance(holder[key], int):
                    holder[key] += 5
            holder["spoilt"] = {}
        else:
            holder.append("spoilt")
            holder.reverse()


def answers_freshly(case, call, *handed):
    """Holds a call to point 4: it changes nothing, and its answer is new, the asker's own, and no holder is in it twice."""
    ahead = shape_of(handed)
    answer = call(*handed)
    case.assertEqual(shape_of(handed), ahead)
    kept = copy.deepcopy(answer)
    holders = [id(holder) for holder in holders_in(answer)]
    case.assertEqual(len(holders), len(set(holders)))
    case.assertFalse(set(holders) & set(id(holder) for holder in holders_in(handed)))
    spoil(answer)
    case.assertEqual(shape_of(handed), ahead)
    second = call(*handed)
    case.assertEqual(second, kept)
    spoil(handed)
    case.assertEqual(second, kept)


def plain_net(places, lines):
    """A net, made without the program."""
    net = {place: {} for place in places}
    for one, other, strength in lines:
        net[one][other] = strength
        net[other][one] = strength
    return net


def turned(net):
    """An equal net with all entries in the other order."""
    return {place: dict(reversed(list(net[place].items()))) for place in reversed(list(net))}


def small_nets():
    """All nets of up to four places of which each line is missing or one of two strengths."""
    for many in range(5):
        places = ["b", "aa", "a", "ab"][:many]
        pairs = list(itertools.combinations(places, 2))
        for strengths in itertools.product((0, 1, 7), repeat=len(pairs)):
            lines = [pair + (strength,) for pair, strength in zip(pairs, strengths) if strength]
            yield plain_net(places, lines)


def drawn_nets(many):
    """Nets of up to twelve places, thin and thick ones, always the same ones."""
    draw = random.Random(20)
    for turn in range(many):
        places = []
        while len(places) < turn % 13:
            name = "".join(draw.choice("abz") for sign in range(draw.randint(1, 8)))
            if name not in places:
                places.append(name)
        share = draw.choice((0, 1, 2, 5, 10))
        lines = [pair + (draw.choice((1, 2, 9, 10, 10 ** 9)),) for pair in itertools.combinations(places, 2)
                 if draw.randrange(10) < share]
        yield plain_net(places, lines)


def mixed(things, turn=0):
    """The same things in another order, always the same one for the same turn."""
    order = list(things)
    random.Random(turn).shuffle(order)
    return order


def drawn_arcs(many, most_places=6):
    """Arcs of two places on: unlike numbers there and back, numbers of 0, and ways that are not told."""
    draw = random.Random(21)
    for turn in range(many):
        places = draw.sample(["a", "ab", "b", "ba", "c", "zz", "zzzzzzzz"], 2 + turn % (most_places - 1))
        numbers = draw.choice(((0, 1), (0, 1, 2, 3), (1, 5, 10 ** 12), (0, 10 ** 12 - 1, 10 ** 12), (7,)))
        share = draw.choice((3, 6, 10))
        arcs = {place: {} for place in places}
        for here, there in mixed(itertools.permutations(places, 2), turn):
            if draw.randrange(10) < share:
                arcs[here][there] = draw.choice(numbers)
        yield arcs


def sides_of(places):
    """All sides, the empty one and that of all places too."""
    for many in range(len(places) + 1):
        for side in itertools.combinations(sorted(places), many):
            yield list(side)


def leaving(arcs, side):
    return sum(number for here in side for there, number in arcs[here].items() if there not in side)


def least_sides(arcs, ones, others):
    """By all sides tried one by one: the least amount that leaves a parting side, and all such sides."""
    tried = [(leaving(arcs, side), side) for side in sides_of(arcs)
             if set(ones) <= set(side) and not set(others) & set(side)]
    amount = min(tried)[0]
    return amount, [side for leaves, side in tried if leaves == amount]


def all_between(net):
    """By all sides tried one by one: what goes between any two places, told in either order."""
    between = {}
    for side in sides_of(net):
        crossing = leaving(net, side)
        for one in side:
            for other in net:
                if other not in side:
                    less = min(crossing, between.get((one, other), crossing))
                    between[one, other] = between[other, one] = less
    return between


def groups_by_joining(net):
    """The groups of a net, found by joining what lines join."""
    groups = {place: {place} for place in net}
    for one in net:
        for other in net[one]:
            both = groups[one] | groups[other]
            for place in both:
                groups[place] = both
    return sorted(sorted(group) for group in {tuple(sorted(group)) for group in groups.values()})


def without(net, lines):
    """The net with these lines out, told in either order, made without the program."""
    out = {frozenset(line) for line in lines}
    return {one: {other: net[one][other] for other in net[one] if frozenset((one, other)) not in out} for one in net}


def bare_lines(net):
    return sorted((one, other) for one in net for other in net[one] if one < other)
