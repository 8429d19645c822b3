"""Roads: points 6 and 7, and what point 12 says of them."""

import inspect
import unittest

from riverloops import roads as module
from riverloops.arcs import beside, covered, mirrored, turned
from riverloops.errors import NoArcs, NoNumber, Unlike
from riverloops.roads import many_roads, one_road, roads, rows_with
from tests.rows import (
    HUGE, NO_ARCS, ArcsCase, long_pairs, many_kinds, nested, pairs, parts, rows, scattered, small_rows, tells_arcs,
    unlike_pairs, walked,
)


class RoadsCase(ArcsCase):
    def assert_roads(self, told, expected):
        self.assertIs(type(told), list)
        for road in told:
            self.assertIs(type(road), list)
            self.assertTrue(all(type(bridge) is int for bridge in road))
        self.assertEqual(told, expected)


class TestInterface(unittest.TestCase):
    def test_names_and_arguments(self):
        expected = {
            "roads": ["above", "below"],
            "many_roads": ["above", "below"],
            "one_road": ["above"],
            "rows_with": ["size", "roads"],
        }
        for name, arguments in expected.items():
            self.assertEqual(list(inspect.signature(getattr(module, name)).parameters), arguments)


class TestRoads(RoadsCase):
    def test_some(self):
        self.assert_roads(roads([1, 0], [1, 0]), [[0, 1]])
        self.assert_roads(roads([1, 0, 3, 2], [3, 2, 1, 0]), [[0, 1, 2, 3]])
        self.assert_roads(roads([3, 2, 1, 0], [1, 0, 3, 2]), [[0, 3, 2, 1]])
        self.assert_roads(roads([3, 2, 1, 0], [3, 2, 1, 0]), [[0, 3], [1, 2]])
        self.assert_roads(roads([1, 0, 3, 2], [1, 0, 3, 2]), [[0, 1], [2, 3]])
        self.assert_roads(roads([5, 2, 1, 4, 3, 0], [5, 4, 3, 2, 1, 0]), [[0, 5], [1, 2, 3, 4]])
        self.assert_roads(roads([5, 4, 3, 2, 1, 0], [5, 2, 1, 4, 3, 0]), [[0, 5], [1, 4, 3, 2]])

    def test_every_pair_of_1_to_5_walked(self):
        for above, below in pairs(5):
            self.assert_roads(roads(above, below), walked(above, below))

    def test_some_pairs_of_20_walked(self):
        for above, below in long_pairs(20):
            self.assert_roads(roads(above, below), walked(above, below))

    def test_each_bridge_is_on_one_road_from_its_least_on_by_the_arc_above(self):
        for above, below in pairs(4) + long_pairs(20):
            told = roads(above, below)
            self.assertEqual(sorted(sum(told, [])), list(range(len(above))))
            self.assertEqual([road[0] for road in told], sorted(min(road) for road in told))
            for road in told:
                self.assertEqual(road[1::2], [above[bridge] for bridge in road[::2]])
                self.assertEqual(road[2::2] + road[:1], [below[bridge] for bridge in road[1::2]])

    def test_20_arcs_above_as_below(self):
        for row in many_kinds(20):
            self.assert_roads(roads(row, row), [[here, there] for here, there in enumerate(row) if here < there])

    def test_a_list_may_be_both_above_and_below(self):
        row = nested(3)
        self.assert_roads(roads(row, row), [[0, 5], [1, 4], [2, 3]])


class TestManyRoads(RoadsCase):
    def test_every_pair_of_1_to_5(self):
        for above, below in pairs(5):
            self.assert_number(many_roads(above, below), parts(list(enumerate(above)) + list(enumerate(below))))

    def test_some_pairs_of_20(self):
        for above, below in long_pairs(20):
            self.assert_number(many_roads(above, below), parts(list(enumerate(above)) + list(enumerate(below))))

    def test_as_many_as_the_roads_that_are_told(self):
        for above, below in pairs(4) + long_pairs(20):
            self.assert_number(many_roads(above, below), len(roads(above, below)))

    def test_both_turned_by_the_same_number(self):
        for above, below in pairs(4) + long_pairs(20)[::7]:
            for by in (1, 2, 3, 10 ** 59 + 1, -1, -2, -3, -(10 ** 59) - 1):
                self.assert_number(many_roads(turned(above, by), turned(below, by)), many_roads(above, below))

    def test_both_mirrored(self):
        for above, below in pairs(5) + long_pairs(20):
            self.assert_number(many_roads(mirrored(above), mirrored(below)), many_roads(above, below))

    def test_the_banks_changed_about(self):
        for above, below in pairs(5) + long_pairs(20):
            self.assert_number(many_roads(below, above), many_roads(above, below))

    def test_side_by_side_with_themselves(self):
        for above, below in pairs(5) + long_pairs(10):
            self.assert_number(many_roads(beside(above, above), beside(below, below)), 2 * many_roads(above, below))

    def test_both_covered(self):
        for above, below in pairs(5) + long_pairs(19):
            self.assert_number(many_roads(covered(above), covered(below)), many_roads(above, below) + 1)


class TestUnlike(RoadsCase):
    def test_arcs_of_unlike_numbers(self):
        for above, below in unlike_pairs():
            self.assert_refused(Unlike, roads, above, below)
            self.assert_refused(Unlike, many_roads, above, below)


class TestOneRoad(RoadsCase):
    def assert_one_road(self, above):
        below = one_road(above)
        self.assert_arcs(below, list(below))
        self.assertTrue(tells_arcs(below))
        self.assertEqual(len(below), len(above))
        self.assertEqual(len(walked(above, below)), 1)

    def test_every_row_of_1_to_5(self):
        for above in small_rows():
            self.assert_one_road(above)

    def test_rows_of_6_to_20(self):
        for size in range(6, 21):
            for above in many_kinds(size):
                self.assert_one_road(above)

    def test_more_rows_of_20(self):
        for seed in range(12, 200):
            self.assert_one_road(scattered(20, seed))
        for above in many_kinds(20):
            for by in range(1, 40):
                self.assert_one_road(turned(above, by))

    def test_no_arcs(self):
        for some in NO_ARCS.values():
            self.assert_refused(NoArcs, one_road, list(some))


class TestRowsWith(RoadsCase):
    def test_all_pairs_of_1_to_5_walked(self):
        for size in range(1, 6):
            found = [len(walked(above, below)) for above in rows(size) for below in rows(size)]
            for count in range(1, size + 1):
                self.assert_number(rows_with(size, count), found.count(count))

    def test_written_numbers(self):
        self.assertEqual([rows_with(size, 1) for size in range(1, 6)], [1, 2, 8, 42, 262])
        self.assertEqual([rows_with(size, size) for size in range(1, 6)], [1, 2, 5, 14, 42])
        self.assertEqual([rows_with(3, count) for count in range(1, 4)], [8, 12, 5])

    def test_a_size_that_is_not_1_to_5(self):
        for size in (0, -1, -5, 6, 7, 19, 20, 21, 22, HUGE, -HUGE):
            for count in (1, 2, 5, 6, 0, -1, size, HUGE, -HUGE):
                self.assert_refused(NoNumber, rows_with, size, count)

    def test_a_number_of_roads_that_there_is_not(self):
        for size in range(1, 6):
            for count in (0, -1, -size, size + 1, size + 2, 6, 20, HUGE, -HUGE):
                self.assert_refused(NoNumber, rows_with, size, count)


if __name__ == "__main__":
    unittest.main()
