"""Rows of arcs for the tests, found by the document's own words and without the program."""

from itertools import combinations, product


def cross(first, second):
    (a, b), (c, d) = first, second
    return a < c < b < d


def tells_arcs(some):
    """Whether a list tells arcs, asked word by word as point 2 says it."""
    bridges = len(some)
    if bridges not in range(2, 41, 2):
        return False
    if any(there not in range(bridges) for there in some):
        return False
    if any(there == here or some[there] != here for here, there in enumerate(some)):
        return False
    pairs = [(here, there) for here, there in enumerate(some) if here < there]
    return not any(cross(p, q) or cross(q, p) for p, q in combinations(pairs, 2))


def is_word(text):
    """Whether a text of few signs is a word, as point 3 says it."""
    if text == "" or set(text) - set("()") or text.count("(") != text.count(")"):
        return False
    heads = [text[:place] for place in range(len(text) + 1)]
    return all(head.count(")") <= head.count("(") for head in heads)


def words(size):
    """All words of so many arcs."""
    texts = ["".join(signs) for signs in product("()", repeat=2 * size)]
    return [text for text in texts if is_word(text)]


def pairings(bridges):
    """All ways to join these bridges by pairs, as lists of pairs, crossing or not."""
    if not bridges:
        return [[]]
    first, rest = bridges[0], bridges[1:]
    return [
        [(first, partner)] + others
        for partner in rest
        for others in pairings([bridge for bridge in rest if bridge != partner])
    ]


def list_of(pairs):
    """The list that tells these pairs."""
    told = [None] * (2 * len(pairs))
    for a, b in pairs:
        told[a], told[b] = b, a
    return told


def joined(size):
    """Lists of all ways to join so many pairs of bridges, crossing or not."""
    return [list_of(pairs) for pairs in pairings(list(range(2 * size)))]


def rows(size):
    """All rows of so many arcs."""
    return [some for some in joined(size) if tells_arcs(some)]


def small_rows():
    """All rows of 1 to 5 arcs."""
    return [row for size in range(1, 6) for row in rows(size)]


def side_by_side(size):
    """So many small arcs, each beside the next: ()()()"""
    return [bridge ^ 1 for bridge in range(2 * size)]


def nested(size):
    """So many arcs, each over the next: ((()))"""
    return list(reversed(range(2 * size)))


def mixed(size):
    """So many arcs, at least 3: (()())()() and so on, from 4 on not its own mirror image."""
    inner = [there + 1 for there in side_by_side(2)]
    return [5] + inner + [0] + [there + 6 for there in side_by_side(size - 3)]


def long_rows(size):
    return [side_by_side(size), nested(size), mixed(size)]


NO_ARCS = {
    "empty": [],
    "one bridge": [0],
    "odd": [1, 0, 2],
    "odd, its last leads back": [1, 0, 1],
    "21 arcs side by side": side_by_side(21),
    "21 arcs nested": nested(21),
    "22 arcs": side_by_side(22),
    "30 arcs": nested(30),
    "31 arcs": side_by_side(31),
    "41 bridges": side_by_side(20) + [40],
    "to itself": [0, 1],
    "one to itself": [1, 0, 2, 3],
    "one to itself, within": [3, 1, 2, 0],
    "to one that doesn't lead back": [1, 2, 3, 0],
    "two to one": [1, 0, 1, 0],
    "all to one": [1, 1],
    "below nought, as if from the end": [-1, 0],
    "both below nought": [-1, -2],
    "all below nought": [-1, -2, -3, -4],
    "one below nought, else right": [3, 2, 1, -4],
    "one beyond the last": [2, 0],
    "just beyond the last": [1, 0, 3, 4],
    "far beyond the last": [1, 10 ** 60 - 1],
    "far below nought": [1 - 10 ** 60, 0],
    "crossing": [2, 3, 0, 1],
    "crossing, of three": [3, 4, 5, 0, 1, 2],
    "crossing beside others": [1, 0, 4, 5, 2, 3],
    "crossing within": [5, 3, 4, 1, 2, 0],
    "crossing of the 20th": side_by_side(18) + [38, 39, 36, 37],
}
