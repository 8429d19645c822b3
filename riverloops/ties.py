"""Arcs seen as ties between upper and lower ends, laid beneath one another and closed round."""

from riverloops.arcs import in_one_row, join_bridges, refuse_no_arcs, refuse_unlike
from riverloops.numbers import refuse_no_number, refuse_no_size
from riverloops.roads import many_roads


def straight(size):
    refuse_no_size(size)
    return [2 * size - 1 - bridge for bridge in range(2 * size)]


def hook(size, j):
    arcs = straight(size)
    refuse_no_number(j, 0, size - 2, "the number of the hook")
    lower = arcs[j]
    join_bridges(arcs, j, j + 1)
    join_bridges(arcs, lower, lower - 1)
    return arcs


# With both rows side by side, the ends that are left are the first and the last quarter of the bridges. Those between
# make the seam: there the two that are put upon one another are equally far from the middle.
def laid(one, other):
    refuse_unlike(one, other)
    both = in_one_row(one, other)
    ends = [bridge for bridge in range(len(both)) if is_end(both, bridge)]
    arcs = []
    met = []
    for end in ends:
        way = way_from(both, end)
        arcs.append(ends.index(way[-1]))
        met.extend(way)
    return (arcs, many_rings(both, met))


def is_end(both, bridge):
    quarter = len(both) // 4
    return bridge < quarter or bridge >= 3 * quarter


def way_from(both, first):
    last = len(both) - 1
    way = [first, both[first]]
    while not is_end(both, way[-1]) and last - way[-1] != first:
        way.append(last - way[-1])
        way.append(both[way[-1]])
    return way


# What no way from an end has met goes round.
def many_rings(both, met):
    known = list(met)
    rings = 0
    for bridge in range(len(both)):
        if bridge not in known:
            known.extend(way_from(both, bridge))
            rings += 1
    return rings


def closed(arcs):
    refuse_no_arcs(arcs)
    # The straight ones, as arcs below, join each upper end to the lower end of its number: so they go round outside.
    return many_roads(arcs, straight(len(arcs) // 2))
