"""Nets as texts: a row for each place, each line in the row of its lesser place."""

from spareline.errors import NetError, NoRow
from spareline.nets import made_net
from spareline.words import number_of


def show_net(net):
    return "\n".join([shown_row(net, place) for place in sorted(net)])


def read_net(text):
    if not isinstance(text, str):
        raise NoRow(text)
    try:
        net = told_net(text)
    except NetError:
        raise NoRow(text) from None
    # A net has just one text, so whatever was taken too lightly ahead is found here.
    if show_net(net) != text:
        raise NoRow(text)
    return net


def shown_row(net, place):
    ends = []
    for other in sorted(net[place]):
        if place < other:
            strength = net[place][other]
            ends.append(f" {other} {strength}")
    return place + ":" + ",".join(ends)


def told_net(text):
    places = []
    lines = []
    for row in told_rows(text):
        parts = row.partition(":")
        places.append(parts[0])
        lines.extend(told_lines(parts[0], parts[2]))
    return made_net(places, lines)


def told_rows(text):
    # Without this the text without signs would be one row, of a place without a name.
    if text == "":
        return []
    return text.split("\n")


def told_lines(place, told):
    if told == "":
        return []
    lines = []
    for end in told.split(","):
        words = end.split(" ")
        if len(words) != 3:
            raise NoRow(end)
        lines.append((place, words[1], number_of(words[2])))
    return lines
