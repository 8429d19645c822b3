"""What the tests share: rows of arcs and roads, found by the document's own words and without the program."""

import unittest
from itertools import combinations, product

from riverloops.errors import RiverError

HUGE = 10 ** 60 - 1


class ArcsCase(unittest.TestCase):
    def assert_refused(self, refusal, call, *given):
        """The refusal itself, neither a class above it nor one beneath it."""
        with self.assertRaises(RiverError) as taken:
            call(*given)
        self.assertIs(type(taken.exception), refusal)
        self.assertIsInstance(taken.exception, ValueError)

    def assert_arcs(self, told, expected):
        self.assertIs(type(told), list)
        self.assertTrue(all(type(bridge) is int for bridge in told))
        self.assertEqual(told, expected)

    def assert_number(self, told, expected):
        self.assertIs(type(told), int)
        self.assertEqual(told, expected)


def cross(first, second):
    (a, b), (c, d) = first, second
    return a < c < b < d


def tells_arcs(some):
    """Whether a list tells arcs, asked word by word as point 2 says it."""
    bridges = len(some)
    if bridges not in range(2, 41, 2):
        return False
    if any(there not in range(bridges) for there in some):
        return False
    if any(there == here or some[there] != here for here, there in enumerate(some)):
        return False
    pairs = [(here, there) for here, there in enumerate(some) if here < there]
    return not any(cross(p, q) or cross(q, p) for p, q in combinations(pairs, 2))


def is_word(text):
    """Whether a text of few signs is a word, as point 3 says it."""
    if text == "" or set(text) - set("()") or text.count("(") != text.count(")"):
        return False
    heads = [text[:place] for place in range(len(text) + 1)]
    return all(head.count(")") <= head.count("(") for head in heads)


def words(size):
    """All words of so many arcs."""
    texts = ["".join(signs) for signs in product("()", repeat=2 * size)]
    return [text for text in texts if is_word(text)]


def pairings(bridges):
    """All ways to join these bridges by pairs, as lists of pairs, crossing or not."""
    if not bridges:
        return [[]]
    first, rest = bridges[0], bridges[1:]
    return [
        [(first, partner)] + others
        for partner in rest
        for others in pairings([bridge for bridge in rest if bridge != partner])
    ]


def list_of(pairs):
    """The list that tells these pairs."""
    told = [None] * (2 * len(pairs))
    for a, b in pairs:
        told[a], told[b] = b, a
    return told


def joined(size):
    """Lists of all ways to join so many pairs of bridges, crossing or not."""
    return [list_of(pairs) for pairs in pairings(list(range(2 * size)))]


def rows(size):
    """All rows of so many arcs."""
    return [some for some in joined(size) if tells_arcs(some)]


def small_rows():
    """All rows of 1 to 5 arcs."""
    return [row for size in range(1, 6) for row in rows(size)]


def side_by_side(size):
    """So many small arcs, each beside the next: ()()()"""
    return [bridge ^ 1 for bridge in range(2 * size)]


def nested(size):
    """So many arcs, each over the next: ((()))"""
    return list(reversed(range(2 * size)))


def mixed(size):
    """So many arcs, at least 3: (()())()() and so on, from 4 on not its own mirror image."""
    inner = [there + 1 for there in side_by_side(2)]
    return [5] + inner + [0] + [there + 6 for there in side_by_side(size - 3)]


def long_rows(size):
    return [side_by_side(size), nested(size), mixed(size)]


def read(word):
    """The row that a word writes: each end is joined to the last beginning that waits."""
    told, waiting = [None] * len(word), []
    for here, sign in enumerate(word):
        if sign == "(":
            waiting.append(here)
        else:
            told[here] = waiting.pop()
            told[told[here]] = here
    return told


def scattered(size, seed):
    """So many arcs, as a fixed sequence of numbers that begins with the seed has it."""
    word, state = "", seed
    for place in range(2 * size):
        state = (state * 1103515245 + 12345) % 2 ** 31
        waiting = word.count("(") - word.count(")")
        may_open = word.count("(") < size
        word += "(" if may_open and (waiting == 0 or state // 2 ** 16 % 7 < 3 + seed % 2) else ")"
    return read(word)


def put_beside(one, other):
    return one + [there + len(one) for there in other]


def put_under(row):
    return [len(row) + 1] + [there + 1 for there in row] + [0]


def many_kinds(size):
    """Rows of so many arcs, at least 6: side by side, within one another, and mixed in many ways."""
    half, rest = size // 2, size - size // 2
    found = long_rows(size) + [scattered(size, seed) for seed in range(12)]
    for one in long_rows(half):
        found.append(put_beside(one, nested(rest)))
        found.append(put_beside(nested(rest), one))
        found.append(put_under(put_beside(one, side_by_side(rest - 1))))
    return found


def pairs(most):
    """All pairs of rows of 1 to so many arcs."""
    return [pair for size in range(1, most + 1) for pair in product(rows(size), repeat=2)]


def long_pairs(size):
    return list(product(many_kinds(size), repeat=2))


def unlike_pairs():
    """Pairs of rows of unlike numbers."""
    found = [(one, other) for one, other in product(small_rows(), repeat=2) if len(one) != len(other)]
    for size in range(3, 20):
        for one, other in zip(long_rows(size), long_rows(20)):
            found += [(one, other), (other, one)]
    return found


def walked(above, below):
    """The roads, walked bridge by bridge as point 6 says it."""
    left = set(range(len(above)))
    told = []
    while left:
        road = [min(left)]
        while True:
            bank = above if len(road) % 2 else below
            there = bank[road[-1]]
            if there == road[0]:
                break
            road.append(there)
        told.append(road)
        left -= set(road)
    return told


def parts(joins):
    """How many parts hang together in themselves, of all that these pairs join."""
    part_of = {thing: {thing} for join in joins for thing in join}
    for one, other in joins:
        both = part_of[one] | part_of[other]
        for thing in both:
            part_of[thing] = both
    return len({frozenset(part) for part in part_of.values()})


# Numbers of which there are no arcs.
NO_SIZES = [0, -1, -2, -20, 21, 22, 30, 60, 100, HUGE, -HUGE, 10 ** 70, -(10 ** 70)]

NO_ARCS = {
    "empty": [],
    "one bridge": [0],
    "odd": [1, 0, 2],
    "odd, its last leads back": [1, 0, 1],
    "21 arcs side by side": side_by_side(21),
    "21 arcs nested": nested(21),
    "22 arcs": side_by_side(22),
    "30 arcs": nested(30),
    "31 arcs": side_by_side(31),
    "41 bridges": side_by_side(20) + [40],
    "to itself": [0, 1],
    "one to itself": [1, 0, 2, 3],
    "one to itself, within": [3, 1, 2, 0],
    "to one that doesn't lead back": [1, 2, 3, 0],
    "two to one": [1, 0, 1, 0],
    "all to one": [1, 1],
    "below nought, as if from the end": [-1, 0],
    "both below nought": [-1, -2],
    "all below nought": [-1, -2, -3, -4],
    "one below nought, else right": [3, 2, 1, -4],
    "one beyond the last": [2, 0],
    "just beyond the last": [1, 0, 3, 4],
    "far beyond the last": [1, 10 ** 60 - 1],
    "far below nought": [1 - 10 ** 60, 0],
    "crossing": [2, 3, 0, 1],
    "crossing, of three": [3, 4, 5, 0, 1, 2],
    "crossing beside others": [1, 0, 4, 5, 2, 3],
    "crossing within": [5, 3, 4, 1, 2, 0],
    "crossing of the 20th": side_by_side(18) + [38, 39, 36, 37],
}
