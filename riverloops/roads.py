"""Closed roads over the bridges, by arcs above the river and arcs below it."""

from riverloops.arcs import join_bridges, refuse_no_arcs, refuse_unlike
from riverloops.numbers import arcs_at, many, refuse_no_number

MOST_IN_PAIRS = 5


def roads(above, below):
    refuse_unlike(above, below)
    found = []
    met = []
    for first in range(len(above)):
        if first not in met:
            road = road_from(first, above, below)
            found.append(road)
            met.extend(road)
    return found


def road_from(first, above, below):
    road = [first, above[first]]
    here = below[above[first]]
    while here != first:
        road.append(here)
        road.append(above[here])
        here = below[above[here]]
    return road


def many_roads(above, below):
    return len(roads(above, below))


def one_road(above):
    refuse_no_arcs(above)
    below = list(above)
    for here, there in enumerate(above):
        # The road is led over one arc above more, in the order in which they begin. Among the bridges that it has
        # then, the two new ones stand side by side, next behind the one ahead of them. So that one's arc below can
        # be led to the new arc's end instead, and that one be joined to the new arc's beginning: nothing crosses.
        if here > 0 and there > here:
            far = below[here - 1]
            join_bridges(below, here - 1, here)
            join_bridges(below, there, far)
    return below


def rows_with(size, roads):
    refuse_no_number(size, 1, MOST_IN_PAIRS, "the number of arcs")
    refuse_no_number(roads, 1, size, "the number of roads")
    rows = [arcs_at(size, number) for number in range(many(size))]
    pairs = 0
    for above in rows:
        for below in rows:
            if many_roads(above, below) == roads:
                pairs += 1
    return pairs
