"""What holds over the whole program: points 1 and 12, of numbers, roads and ties too."""

import copy
import unittest

from riverloops.arcs import arcs_of, beside, covered, is_arcs, mirrored, turned, word_of
from riverloops.errors import NoArcs, NoNumber, NotRead, RiverError, TooMany, Unlike
from riverloops.numbers import arcs_at, many, number_of
from riverloops.roads import many_roads, one_road, roads, rows_with
from riverloops.ties import closed, hook, laid, straight
from tests.rows import HUGE, NO_ARCS, ArcsCase, long_rows, many_kinds, nested, side_by_side, small_rows

# Every call that takes one list of arcs, and every call that takes two.
OF_ONE = {
    "word_of": word_of,
    "turned": lambda arcs: turned(arcs, 1),
    "mirrored": mirrored,
    "covered": covered,
    "number_of": number_of,
    "one_road": one_road,
    "closed": closed,
}
OF_TWO = {"beside": beside, "roads": roads, "many_roads": many_roads, "laid": laid}

# Every call that takes numbers alone.
OF_NUMBERS = {
    "many": (many, (4,)),
    "arcs_at": (arcs_at, (4, 6)),
    "arcs_at, the first": (arcs_at, (1, 0)),
    "arcs_at, of 20": (arcs_at, (20, 10 ** 9)),
    "rows_with": (rows_with, (3, 2)),
    "straight": (straight, (4,)),
    "straight, of 20": (straight, (20,)),
    "hook": (hook, (4, 1)),
    "hook, of 20": (hook, (20, 18)),
}

REFUSED = [
    (NoArcs, word_of, ([2, 3, 0, 1],)),
    (NoArcs, turned, ([2, 3, 0, 1], 0)),
    (NoArcs, mirrored, ([2, 3, 0, 1],)),
    (NoArcs, beside, ([1, 0], [0, 1])),
    (NoArcs, covered, ([2, 3, 0, 1],)),
    (NoArcs, number_of, ([2, 3, 0, 1],)),
    (NoArcs, roads, ([1, 0], [0, 1])),
    (NoArcs, many_roads, ([1, 0], [0, 1])),
    (NoArcs, one_road, ([2, 3, 0, 1],)),
    (NoArcs, laid, ([1, 0], [0, 1])),
    (NoArcs, closed, ([2, 3, 0, 1],)),
    (NoNumber, many, (0,)),
    (NoNumber, arcs_at, (0, 0)),
    (NoNumber, arcs_at, (2, 2)),
    (NoNumber, arcs_at, (21, -1)),
    (NoNumber, arcs_at, (0, HUGE)),
    (NoNumber, rows_with, (6, 1)),
    (NoNumber, rows_with, (2, 3)),
    (NoNumber, rows_with, (6, 7)),
    (NoNumber, rows_with, (0, 0)),
    (NoNumber, straight, (21,)),
    (NoNumber, hook, (21, 0)),
    (NoNumber, hook, (2, 1)),
    (NoNumber, hook, (0, -1)),
    (NoNumber, hook, (21, 20)),
    (Unlike, roads, ([1, 0], [1, 0, 3, 2])),
    (Unlike, many_roads, ([1, 0], [1, 0, 3, 2])),
    (Unlike, laid, ([1, 0], [1, 0, 3, 2])),
    (TooMany, beside, (nested(20), [1, 0])),
    (TooMany, covered, (nested(20),)),
    (NotRead, arcs_of, (")(",)),
]


def asked():
    """Every call that takes lists, with lists that it takes."""
    found = []
    for row in small_rows() + long_rows(10) + many_kinds(19)[:5]:
        found += [(call, (row,)) for call in OF_ONE.values()] + [(is_arcs, (row,))]
    for one in small_rows() + long_rows(10):
        for other in (one, mirrored(one), turned(one, 1), nested(len(one) // 2)):
            found += [(call, (one, other)) for call in OF_TWO.values()]
    return found


def lists_in(told):
    """All lists in what is told, itself too."""
    if not isinstance(told, (list, tuple)):
        return []
    return ([told] if isinstance(told, list) else []) + [some for part in told for some in lists_in(part)]


def spoil(told):
    """Changes every list in what is told."""
    for some in lists_in(told):
        some.reverse()
        some.append(-7)


class TestRefusals(ArcsCase):
    def test_each_call_refuses_with_the_refusal_s_own_class(self):
        for refusal, call, given in REFUSED:
            with self.subTest(call=call.__name__, given=given):
                self.assert_refused(refusal, call, *copy.deepcopy(given))

    def test_every_refusal_is_taken_by_the_classes_above_it(self):
        for refusal, call, given in REFUSED:
            for taken in (refusal, RiverError, ValueError):
                with self.assertRaises(taken):
                    call(*copy.deepcopy(given))

    def test_every_call_refuses_every_list_that_tells_no_arcs(self):
        for kind, some in NO_ARCS.items():
            for name, call in OF_ONE.items():
                with self.subTest(call=name, kind=kind):
                    self.assert_refused(NoArcs, call, list(some))
            for name, call in OF_TWO.items():
                for row in ([1, 0], nested(2), side_by_side(20)):
                    with self.subTest(call=name, kind=kind):
                        self.assert_refused(NoArcs, call, list(some), row)
                        self.assert_refused(NoArcs, call, row, list(some))
                        self.assert_refused(NoArcs, call, list(some), list(some))

    def test_of_two_lists_that_tell_no_arcs_the_first_goes_first(self):
        for call in OF_TWO.values():
            for first, second, words_of_it in [([], [0], "first"), ([1, 0], [], "second"), ([], [1, 0], "first")]:
                with self.assertRaisesRegex(NoArcs, words_of_it):
                    call(first, second)

    def test_what_is_refused_stays_as_it_was(self):
        for refusal, call, given in REFUSED:
            handed = copy.deepcopy(given)
            with self.assertRaises(refusal):
                call(*handed)
            self.assertEqual(handed, given)


class TestNothingIsKept(unittest.TestCase):
    def test_what_is_handed_in_stays_as_it_was(self):
        for call, given in asked():
            handed = copy.deepcopy(given)
            call(*handed)
            self.assertEqual(handed, given)

    def test_no_list_that_is_told_is_one_that_was_handed_in_or_another_that_is_told(self):
        for call, given in asked():
            handed = [list(row) for row in given]
            lists = handed + lists_in(call(*handed)) + lists_in(call(*handed))
            self.assertEqual(len({id(some) for some in lists}), len(lists))

    def test_one_list_handed_in_twice(self):
        for row in small_rows():
            for call in OF_TWO.values():
                handed = list(row)
                told = call(handed, handed)
                self.assertEqual(handed, row)
                self.assertEqual(told, call(list(row), list(row)))
                self.assertNotIn(id(handed), [id(some) for some in lists_in(told)])

    def test_changing_what_was_handed_in_changes_nothing(self):
        for call, given in asked():
            handed = [list(row) for row in given]
            told = call(*handed)
            before = copy.deepcopy(told)
            spoil(handed)
            self.assertEqual(told, before)
            self.assertEqual(call(*[list(row) for row in given]), before)

    def test_changing_what_was_told_changes_nothing(self):
        for call, given in asked():
            handed = [list(row) for row in given]
            told = call(*handed)
            before = copy.deepcopy(told)
            spoil(told)
            self.assertEqual(handed, list(given))
            self.assertEqual(call(*handed), before)

    def test_changing_one_list_of_what_was_told_changes_no_other(self):
        told = roads(nested(4), nested(4))
        told[0].append(9)
        self.assertEqual(told, [[0, 7, 9], [1, 6], [2, 5], [3, 4]])

    def test_what_is_told_of_numbers_is_the_asker_s_own(self):
        for name, (call, given) in OF_NUMBERS.items():
            with self.subTest(name):
                told, again = call(*given), call(*given)
                before = copy.deepcopy(told)
                self.assertEqual(again, before)
                spoil(told)
                self.assertEqual(again, before)
                self.assertEqual(call(*given), before)

    def test_a_list_that_was_asked_may_be_changed_and_asked_again(self):
        given = nested(2)
        self.assertEqual((number_of(given), closed(given), many_roads(given, given)), (0, 2, 2))
        given[:] = side_by_side(2)
        self.assertEqual((number_of(given), closed(given), many_roads(given, given)), (1, 1, 2))
        given[0] = 0
        for call in OF_ONE.values():
            with self.assertRaises(NoArcs):
                call(given)


if __name__ == "__main__":
    unittest.main()
