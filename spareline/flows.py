"""What goes over arcs at most, and the least side that lets no more out."""


def least_side(arcs, ones, others):
    pushed = pushed_through(arcs, ones, others)
    # What is reached over the room that is left lies in every side that lets no more out.
    return (pushed[0], sorted(reached_from(pushed[1], ones)))


def pushed_through(arcs, ones, others):
    """The most that goes from the ones to the others, and arcs of the room that is left then."""
    room = room_on(arcs)
    amount = 0
    way = shortest_way(room, ones, others)
    while way:
        many = least_along(room, way)
        for here, there in zip(way, way[1:]):
            room[here][there] -= many
            room[there][here] += many
        amount += many
        way = shortest_way(room, ones, others)
    return (amount, room)


def room_on(arcs):
    room = {}
    for here in arcs:
        room[here] = dict(arcs[here])
    # What went one way may be sent back, so each way needs the one against it.
    for here in arcs:
        for there in arcs[here]:
            room[there].setdefault(here, 0)
    return room


def least_along(arcs, way):
    return min([arcs[here][there] for here, there in zip(way, way[1:])])


def shortest_way(arcs, ones, others):
    """The places passed from one of the ones to one of the others; [] where arcs above 0 lead to none."""
    ahead = reached_from(arcs, ones)
    # The nearest goal, and so always a shortest way: this bounds the number of ways, however great the numbers are.
    goals = [place for place in ahead if place in others]
    if not goals:
        return []
    way = [goals[0]]
    while ahead[way[0]] is not None:
        way.insert(0, ahead[way[0]])
    return way


def reached_from(arcs, ones):
    """Each place to which arcs above 0 lead, the nearest first, with the place ahead of it, None for the ones."""
    ahead = {}
    waiting = sorted(ones)
    for one in sorted(ones):
        ahead[one] = None
    while waiting:
        here = waiting.pop(0)
        for there in sorted(arcs[here]):
            if arcs[here][there] > 0 and there not in ahead:
                ahead[there] = here
                waiting.append(there)
    return ahead
