"""Ties: points 9, 10 and 11, and what point 12 says of them."""

import inspect
import unittest
from itertools import product

from riverloops import ties as module
from riverloops.errors import NoArcs, NoNumber, Unlike
from riverloops.ties import closed, hook, laid, straight
from tests.rows import (
    HUGE, NO_ARCS, NO_SIZES, ArcsCase, long_pairs, many_kinds, nested, pairs, parts, rows, scattered, side_by_side,
    small_rows, tells_arcs, unlike_pairs,
)


def ends_of(row):
    """The ties of a row as pairs of ends, told by their bank and their number."""
    size = len(row) // 2
    end = [("upper", j) for j in range(size)] + [("lower", j) for j in reversed(range(size))]
    return {frozenset([end[here], end[there]]) for here, there in enumerate(row)}


def renamed(ties, names):
    return [tuple((names[bank], j) for bank, j in tie) for tie in ties]


def put_together(one, other):
    """Point 9 by its words: the ties of what comes of it as pairs of ends, and how many rings fall out."""
    joins = renamed(ends_of(one), {"upper": "upper", "lower": "seam"})
    joins += renamed(ends_of(other), {"upper": "seam", "lower": "lower"})
    left = [set(join) for join in joins]
    grown = []
    while left:
        part = left.pop()
        while any(part & join for join in left):
            touching = next(join for join in left if part & join)
            left.remove(touching)
            part |= touching
        grown.append(frozenset(end for end in part if end[0] != "seam"))
    return {part for part in grown if part}, len([part for part in grown if not part])


class TiesCase(ArcsCase):
    def assert_laid(self, told, arcs, rings):
        self.assertIs(type(told), tuple)
        self.assertEqual(len(told), 2)
        self.assert_arcs(told[0], arcs)
        self.assert_number(told[1], rings)


class TestInterface(unittest.TestCase):
    def test_names_and_arguments(self):
        expected = {"straight": ["size"], "hook": ["size", "j"], "laid": ["one", "other"], "closed": ["arcs"]}
        for name, arguments in expected.items():
            self.assertEqual(list(inspect.signature(getattr(module, name)).parameters), arguments)


class TestStraight(TiesCase):
    def test_each_upper_end_is_tied_to_the_lower_end_of_its_number(self):
        for size in range(1, 21):
            told = straight(size)
            self.assert_arcs(told, nested(size))
            self.assertEqual(ends_of(told), {frozenset([("upper", j), ("lower", j)]) for j in range(size)})

    def test_no_number(self):
        for size in NO_SIZES:
            self.assert_refused(NoNumber, straight, size)


class TestHook(TiesCase):
    def test_some(self):
        self.assert_arcs(hook(2, 0), [1, 0, 3, 2])
        self.assert_arcs(hook(3, 0), [1, 0, 3, 2, 5, 4])
        self.assert_arcs(hook(3, 1), [5, 2, 1, 4, 3, 0])
        self.assert_arcs(hook(4, 0), [1, 0, 5, 4, 3, 2, 7, 6])

    def test_every_hook(self):
        for size in range(2, 21):
            for j in range(size - 1):
                told = hook(size, j)
                self.assert_arcs(told, list(told))
                self.assertTrue(tells_arcs(told))
                expected = {frozenset([("upper", k), ("lower", k)]) for k in range(size) if k not in (j, j + 1)}
                expected |= {frozenset([(bank, j), (bank, j + 1)]) for bank in ("upper", "lower")}
                self.assertEqual(ends_of(told), expected)

    def test_a_size_that_is_none(self):
        for size in NO_SIZES:
            for j in (0, 1, -1, size, size - 2, HUGE, -HUGE):
                self.assert_refused(NoNumber, hook, size, j)

    def test_a_hook_that_there_is_not(self):
        for size in range(1, 21):
            for j in (-1, -2, -size, size - 1, size, size + 1, 2 * size, HUGE, -HUGE):
                self.assert_refused(NoNumber, hook, size, j)

    def test_of_a_size_of_1_there_is_none(self):
        for j in range(-3, 4):
            self.assert_refused(NoNumber, hook, 1, j)


class TestLaid(TiesCase):
    def test_some(self):
        self.assert_laid(laid([1, 0], [1, 0]), [1, 0], 0)
        self.assert_laid(laid([1, 0, 3, 2], [1, 0, 3, 2]), [1, 0, 3, 2], 1)
        self.assert_laid(laid([1, 0, 3, 2, 5, 4], [5, 2, 1, 4, 3, 0]), [1, 0, 5, 4, 3, 2], 0)
        self.assert_laid(laid([5, 2, 1, 4, 3, 0], [1, 0, 3, 2, 5, 4]), [3, 2, 1, 0, 5, 4], 0)

    def assert_put_together(self, one, other):
        told = laid(one, other)
        self.assert_laid(told, told[0], told[1])
        self.assertTrue(tells_arcs(told[0]))
        self.assertEqual((ends_of(told[0]), told[1]), put_together(one, other))

    def test_every_pair_of_1_to_5(self):
        for one, other in pairs(5):
            self.assert_put_together(one, other)

    def test_some_pairs_of_20(self):
        for one, other in long_pairs(20):
            self.assert_put_together(one, other)

    def test_many_rings(self):
        self.assert_laid(laid(side_by_side(20), side_by_side(20)), side_by_side(20), 10)
        under = [19 - bridge for bridge in range(20)]
        row = under + [there + 20 for there in under]
        self.assert_laid(laid(row, row), row, 10)

    def assert_either_brackets(self, first, second, third):
        left, left_rings = laid(first, second)
        right, right_rings = laid(second, third)
        one, one_rings = laid(left, third)
        other, other_rings = laid(first, right)
        self.assertEqual((one, left_rings + one_rings), (other, right_rings + other_rings))

    def test_either_brackets(self):
        for size in range(1, 5):
            for first, second, third in product(rows(size), repeat=3):
                self.assert_either_brackets(first, second, third)

    def test_either_brackets_of_20(self):
        some = many_kinds(20)[::2]
        for first, second, third in product(some, repeat=3):
            self.assert_either_brackets(first, second, third)

    def test_the_straight_ones_turn_nothing(self):
        for row in small_rows() + many_kinds(20):
            self.assert_laid(laid(straight(len(row) // 2), row), row, 0)
            self.assert_laid(laid(row, straight(len(row) // 2)), row, 0)

    def test_unlike(self):
        for one, other in unlike_pairs():
            self.assert_refused(Unlike, laid, one, other)


class TestHooksLaid(TiesCase):
    def test_beneath_itself(self):
        for size in range(2, 21):
            for j in range(size - 1):
                self.assert_laid(laid(hook(size, j), hook(size, j)), hook(size, j), 1)

    def test_beneath_its_neighbour_and_that_beneath_it_again(self):
        for size in range(3, 21):
            for j in range(size - 1):
                for near in (j - 1, j + 1):
                    if near in range(size - 1):
                        both, rings = laid(hook(size, j), hook(size, near))
                        self.assertEqual(rings, 0)
                        self.assertNotEqual(both, hook(size, j))
                        self.assert_laid(laid(both, hook(size, j)), hook(size, j), 0)

    def test_two_or_more_apart_may_change_about(self):
        for size in range(4, 21):
            for j in range(size - 1):
                for far in range(j + 2, size - 1):
                    told = laid(hook(size, j), hook(size, far))
                    self.assert_laid(told, told[0], 0)
                    self.assertEqual(laid(hook(size, far), hook(size, j)), told)

    def test_neighbours_may_not_change_about(self):
        for size in range(3, 21):
            for j in range(size - 2):
                told = laid(hook(size, j), hook(size, j + 1))
                self.assertNotEqual(laid(hook(size, j + 1), hook(size, j)), told)


class TestClosed(TiesCase):
    def expected(self, row):
        """Point 11 by its words."""
        size = len(row) // 2
        return parts([tuple(tie) for tie in ends_of(row)] + [(("upper", j), ("lower", j)) for j in range(size)])

    def test_some(self):
        self.assert_number(closed([1, 0]), 1)
        self.assert_number(closed([3, 2, 1, 0]), 2)
        self.assert_number(closed([1, 0, 3, 2]), 1)

    def test_small_rows_and_rows_of_20(self):
        more = [scattered(20, seed) for seed in range(12, 60)]
        for row in small_rows() + many_kinds(20) + more:
            self.assert_number(closed(row), self.expected(row))

    def test_the_straight_ones_and_the_hooks(self):
        for size in range(1, 21):
            self.assert_number(closed(straight(size)), size)
            for j in range(size - 1):
                self.assert_number(closed(hook(size, j)), size - 1)

    def test_laid_either_way_about(self):
        for one, other in pairs(5) + long_pairs(20):
            arcs, rings = laid(one, other)
            about, about_rings = laid(other, one)
            self.assert_number(closed(arcs) + rings, closed(about) + about_rings)

    def test_no_arcs(self):
        for some in NO_ARCS.values():
            self.assert_refused(NoArcs, closed, list(some))


if __name__ == "__main__":
    unittest.main()
