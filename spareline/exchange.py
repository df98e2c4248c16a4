"""Exchanges at a place: what comes and goes over two of its lines is led past it, until the place is cleared."""

from spareline.errors import NoLine, NoPlace, Odd
from spareline.flows import least_side
from spareline.nets import crossing_of, has_place, net_joined, net_weakened
from spareline.routes import check_strong, weak_side


class Exchange:
    def __init__(self, place, one, other, many):
        self.place = place
        self.one = one
        self.other = other
        self.many = many

    def done(self, net):
        self.check_three(net)
        return moved(net, self.taken(), self.made())

    def undone(self, net):
        self.check_three(net)
        return moved(net, self.made(), self.taken())

    def check_three(self, net):
        for place in (self.place, self.one, self.other):
            if not has_place(net, place):
                raise NoPlace(place)

    def taken(self):
        """What is taken from lines, as tuples (one, other, many)."""
        if self.one == self.other:
            return [(self.place, self.one, 2 * self.many)]
        return [(self.place, self.one, self.many), (self.place, self.other, self.many)]

    def made(self):
        """What is put to lines, as tuples (one, other, many)."""
        # A line from a place to itself would hold nothing together, so there is none.
        if self.one == self.other:
            return []
        return [(self.one, self.other, self.many)]


def most_bearable(net, place, one, other, k):
    if weak_side(net, others_than(net, place), k) is not None:
        return 0
    return bearable(net, place, one, other, k)


def cleared_by(net, place, k):
    check_clearing(net, place, k)
    exchanges = []
    rest = net
    ends = sorted(net[place])
    # What is done at the place makes nothing bearable that was not, so each two ends are asked about only once.
    for at, one in enumerate(ends):
        for other in ends[at:]:
            many = bearable(rest, place, one, other, k)
            if many > 0:
                exchanges.append(Exchange(place, one, other, many))
                rest = exchanges[-1].done(rest)
    return exchanges


def check_clearing(net, place, k):
    if not has_place(net, place):
        raise NoPlace(place)
    if crossing_of(net, [place]) % 2 == 1:
        raise Odd(place)
    check_strong(net, others_than(net, place), k)


def bearable(net, place, one, other, k):
    """How much is bearable in a net whose places other than the place have k routes between any two."""
    most = most_possible(net, place, one, other)
    ends = sorted(set([one, other]))
    # Sides with both ends and without the place get weaker, by two for each one exchanged, and no others do.
    # Such a side counts where it leaves out some far place, too.
    for far in others_than(net, place):
        if most > 0 and far not in ends:
            crossing = least_side(net, ends, [place, far])[0]
            most = min(most, (crossing - k) // 2)
    return most


def most_possible(net, place, one, other):
    if one == other:
        return net[place].get(one, 0) // 2
    return min(net[place].get(one, 0), net[place].get(other, 0))


def moved(net, out, put):
    """The net with lines weakened by what is told first, and then strengthened by what is told second."""
    for one, other, many in out:
        if net[one].get(other, 0) < many:
            raise NoLine(one, other)
    return net_joined(net_weakened(net, out), put)


def others_than(net, place):
    return [other for other in sorted(net) if other != place]
