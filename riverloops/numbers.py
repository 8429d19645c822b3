"""The arcs of so many, numbered from 0 in the order of their words."""

from riverloops.arcs import MOST_ARCS, arcs_of, word_of
from riverloops.errors import NoNumber


def refuse_no_number(number, least, most, called):
    if number < least or number > most:
        raise NoNumber(f"{called} is not from {least} to {most}")


def refuse_no_size(size):
    refuse_no_number(size, 1, MOST_ARCS, "the number of arcs")


# ways[opening][closing] tells how many ways a word can go on with so many "(" and so many ")" still to come.
def all_ways(size):
    ways = [[1 for closing in range(size + 1)]]
    for opening in range(1, size + 1):
        # With fewer ")" than "(" to come, more ")" than "(" would be ahead: no word goes on so.
        row = [0 for closing in range(opening)]
        for closing in range(opening, size + 1):
            row.append(ways[opening - 1][closing] + row[closing - 1])
        ways.append(row)
    return ways


def ways_with_opening(ways, opening, closing):
    return ways[opening - 1][closing] if opening > 0 else 0


def many(size):
    refuse_no_size(size)
    return all_ways(size)[size][size]


def arcs_at(size, number):
    refuse_no_number(number, 0, many(size) - 1, "the number of the arcs")
    ways = all_ways(size)
    opening = size
    closing = size
    rest = number
    signs = []
    while closing > 0:
        # All words that go on with "(" are ahead of those that go on with ")".
        ahead = ways_with_opening(ways, opening, closing)
        if rest < ahead:
            signs.append("(")
            opening -= 1
        else:
            signs.append(")")
            closing -= 1
            rest -= ahead
    return arcs_of("".join(signs))


def number_of(arcs):
    word = word_of(arcs)
    opening = len(arcs) // 2
    closing = opening
    ways = all_ways(opening)
    number = 0
    for sign in word:
        if sign == "(":
            opening -= 1
        else:
            number += ways_with_opening(ways, opening, closing)
            closing -= 1
    return number
