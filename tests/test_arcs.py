"""Arcs: points 1 to 4, 8 and 12, as far as they speak of riverloops.arcs."""

import inspect
import unittest
from itertools import product

from riverloops import arcs as module
from riverloops.arcs import arcs_of, beside, covered, is_arcs, mirrored, turned, word_of
from riverloops.errors import NoArcs, NotRead, RiverError, TooMany
from tests.rows import (
    HUGE, NO_ARCS, ArcsCase, is_word, joined, long_rows, mixed, nested, rows, side_by_side, small_rows, tells_arcs,
    words,
)

# Every call that takes one list of arcs and refuses a list that tells none.
CALLS = {
    "word_of": word_of,
    "turned by 0": lambda arcs: turned(arcs, 0),
    "turned by 1": lambda arcs: turned(arcs, 1),
    "turned back": lambda arcs: turned(arcs, -HUGE),
    "mirrored": mirrored,
    "covered": covered,
    "beside, first": lambda arcs: beside(arcs, [1, 0]),
    "beside, second": lambda arcs: beside([1, 0], arcs),
    "beside itself": lambda arcs: beside(arcs, arcs),
}

# Every call that gives arcs, of arcs that are handed in.
GIVING = {
    "turned by 0": lambda arcs: turned(arcs, 0),
    "turned by 1": lambda arcs: turned(arcs, 1),
    "turned round": lambda arcs: turned(arcs, len(arcs)),
    "mirrored": mirrored,
    "covered": covered,
    "beside, first": lambda arcs: beside(arcs, [1, 0]),
    "beside, second": lambda arcs: beside([1, 0], arcs),
    "beside itself": lambda arcs: beside(arcs, arcs),
}


class TestInterface(unittest.TestCase):
    def test_names_and_arguments(self):
        expected = {
            "is_arcs": ["some"],
            "word_of": ["arcs"],
            "arcs_of": ["word"],
            "turned": ["arcs", "by"],
            "mirrored": ["arcs"],
            "beside": ["one", "other"],
            "covered": ["arcs"],
        }
        for name, arguments in expected.items():
            self.assertEqual(list(inspect.signature(getattr(module, name)).parameters), arguments)


class TestIsArcs(ArcsCase):
    def test_arcs_of_1(self):
        self.assertIs(is_arcs([1, 0]), True)

    def test_arcs_of_20(self):
        for row in long_rows(20):
            self.assertIs(is_arcs(row), True)

    def test_arcs_of_every_number(self):
        for size in range(3, 21):
            for row in long_rows(size):
                self.assertIs(is_arcs(row), True)

    def test_lists_that_tell_no_arcs(self):
        for name, some in NO_ARCS.items():
            with self.subTest(name):
                self.assertIs(is_arcs(some), False)

    def test_no_arcs_by_number(self):
        for size in range(21, 36):
            self.assertIs(is_arcs(side_by_side(size)), False)
            self.assertIs(is_arcs(nested(size)), False)

    def test_every_short_list(self):
        for length in range(5):
            for some in product(range(-length - 1, length + 2), repeat=length):
                self.assertIs(is_arcs(list(some)), tells_arcs(some), some)

    def test_every_list_of_6_bridges(self):
        found = [list(some) for some in product(range(6), repeat=6) if is_arcs(list(some))]
        self.assertEqual(sorted(found), sorted(rows(3)))

    def test_every_way_to_join_the_bridges_by_pairs(self):
        for size, expected in enumerate([1, 2, 5, 14, 42], start=1):
            found = [some for some in joined(size) if is_arcs(some)]
            self.assertEqual(found, rows(size))
            self.assertEqual(len(found), expected)

    def test_one_entry_changed(self):
        for row in long_rows(20):
            for place in range(40):
                for entry in (-41, -40, -1, row[place] - 40, row[place] + 40, 40, HUGE, -HUGE, place):
                    some = row[:place] + [entry] + row[place + 1:]
                    self.assertIs(is_arcs(some), False)


class TestNoArcs(ArcsCase):
    def test_every_call_refuses_every_list_that_tells_no_arcs(self):
        for name, call in CALLS.items():
            for kind, some in NO_ARCS.items():
                with self.subTest(call=name, kind=kind):
                    self.assert_refused(NoArcs, call, list(some))

    def test_a_refused_list_stays_as_it_was(self):
        for call in CALLS.values():
            for some in NO_ARCS.values():
                given = list(some)
                with self.assertRaises(NoArcs):
                    call(given)
                self.assertEqual(given, some)


class TestWords(ArcsCase):
    def test_some_words(self):
        for row, word in [
            ([1, 0], "()"),
            ([1, 0, 3, 2], "()()"),
            ([3, 2, 1, 0], "(())"),
            ([5, 2, 1, 4, 3, 0], "(()())"),
            ([1, 0, 5, 4, 3, 2], "()(())"),
            (side_by_side(20), "()" * 20),
            (nested(20), "(" * 20 + ")" * 20),
        ]:
            self.assertEqual(word_of(row), word)
            self.assertIs(type(word_of(row)), str)
            self.assert_arcs(arcs_of(word), row)

    def test_what_is_written_is_read_to_the_same_arcs(self):
        for row in small_rows():
            self.assert_arcs(arcs_of(word_of(row)), row)
        for size in range(3, 21):
            for row in long_rows(size):
                self.assert_arcs(arcs_of(word_of(row)), row)

    def test_each_word_is_read(self):
        for size in range(1, 7):
            for word in words(size):
                told = arcs_of(word)
                self.assertTrue(tells_arcs(told))
                self.assertEqual(word_of(told), word)

    def test_the_words_of_all_arcs_are_all_words(self):
        for size in range(1, 6):
            self.assertEqual(sorted(word_of(row) for row in rows(size)), sorted(words(size)))

    def test_every_short_text(self):
        for length in range(7):
            for signs in product("() x", repeat=length):
                text = "".join(signs)
                if is_word(text):
                    self.assertEqual(word_of(arcs_of(text)), text)
                else:
                    self.assert_refused(NotRead, arcs_of, text)

    def test_texts_that_are_no_word(self):
        for text in [
            "", "(", ")", ")(", "((", "))", "())", "(()", "()(", ")()", "())(", "))((", "(()))(", "()())(()",
            "(" * 20, ")" * 20, "(" * 40, ")" * 40, "(" * 60, ")" * 20 + "(" * 20,
            "(" * 21 + ")" * 19, "(" * 19 + ")" * 21, "(" * 20 + ")" * 19, "(" * 19 + ")" * 20,
            " ()", "() ", "( )", "()\n", "\n()", "(\t)", "()\n()", "[]", "{}", "<>", "()[]", "(.)", "10", "ab",
            "(0)", "()()x", "x()()", "()xx", "(xx)",
        ]:
            with self.subTest(text):
                self.assert_refused(NotRead, arcs_of, text)

    def test_every_other_sign(self):
        for sign in [chr(code) for code in range(32, 127)] + ["\t", "\n", "\r"]:
            if sign not in "()":
                for text in [sign, sign * 2, "()" + sign, "()" + sign * 2, "(" + sign, sign + ")", "(" + sign + "))"]:
                    self.assert_refused(NotRead, arcs_of, text)

    def test_21_arcs_and_more_are_not_read(self):
        for size in range(21, 36):
            for text in ["()" * size, "(" * size + ")" * size]:
                self.assert_refused(NotRead, arcs_of, text)

    def test_20_arcs_and_a_sign_too_few_or_too_many(self):
        for word in [word_of(row) for row in long_rows(20)]:
            for text in [word[1:], word[:-1], word + "(", word + ")", "(" + word, ")" + word, word + " "]:
                self.assert_refused(NotRead, arcs_of, text)

    def test_not_read_is_taken_by_the_classes_above_it(self):
        for taken in (NotRead, RiverError, ValueError):
            with self.assertRaises(taken):
                arcs_of(")(")


class TestTurned(ArcsCase):
    def expected(self, row, by):
        """Point 4, one step after another."""
        step = 1 if by > 0 else -1
        bridges = len(row)

        def moved(bridge):
            for one_more in range(abs(by)):
                bridge += step
                bridge = 0 if bridge == bridges else bridges - 1 if bridge < 0 else bridge
            return bridge

        told = [None] * bridges
        for here, there in enumerate(row):
            told[moved(here)] = moved(there)
        return told

    def test_some(self):
        self.assert_arcs(turned([1, 0, 3, 2], 1), [3, 2, 1, 0])
        self.assert_arcs(turned([5, 2, 1, 4, 3, 0], 1), [1, 0, 3, 2, 5, 4])
        self.assert_arcs(turned([1, 0, 5, 4, 3, 2], 1), [3, 2, 1, 0, 5, 4])
        self.assert_arcs(turned([1, 0, 5, 4, 3, 2], -1), [5, 4, 3, 2, 1, 0])
        self.assert_arcs(turned([1, 0, 5, 4, 3, 2], 2), [5, 4, 3, 2, 1, 0])

    def test_every_small_row_by_numbers_of_either_sign(self):
        for row in small_rows():
            for by in range(-2 * len(row) - 1, 2 * len(row) + 2):
                self.assert_arcs(turned(row, by), self.expected(row, by))

    def test_20_arcs(self):
        for row in long_rows(20):
            for by in range(-81, 82):
                told = turned(row, by)
                self.assert_arcs(told, self.expected(row, by))
                self.assertTrue(tells_arcs(told))

    def test_by_nought_and_all_round(self):
        for row in small_rows() + long_rows(20):
            for by in (0, len(row), -len(row), 10 ** 59 * len(row), -(10 ** 59) * len(row)):
                self.assert_arcs(turned(row, by), row)

    def test_very_large_numbers(self):
        for row in small_rows() + long_rows(20):
            for rest in range(len(row)):
                for rounds in (10 ** 57, -(10 ** 57), 10 ** 70, -(10 ** 70)):
                    self.assert_arcs(turned(row, rounds * len(row) + rest), self.expected(row, rest))

    def test_turned_back(self):
        for row in small_rows() + long_rows(20):
            for by in (1, 2, 7, 41, 10 ** 30 + 3, HUGE):
                self.assert_arcs(turned(turned(row, by), -by), row)
                self.assert_arcs(turned(turned(row, -by), by), row)

    def test_twice_is_by_the_sum(self):
        for row in small_rows() + long_rows(20):
            self.assert_arcs(turned(turned(row, 3), HUGE), turned(row, HUGE + 3))


class TestMirrored(ArcsCase):
    def test_some(self):
        self.assert_arcs(mirrored([1, 0]), [1, 0])
        self.assert_arcs(mirrored([1, 0, 5, 4, 3, 2]), [3, 2, 1, 0, 5, 4])

    def test_the_word_seen_from_the_other_side(self):
        other = {"(": ")", ")": "("}
        for row in small_rows() + long_rows(20):
            seen = "".join(other[sign] for sign in reversed(word_of(row)))
            self.assertEqual(word_of(mirrored(row)), seen)

    def test_each_arc(self):
        for row in small_rows() + long_rows(20):
            last = len(row) - 1
            expected = [None] * len(row)
            for here, there in enumerate(row):
                expected[last - here] = last - there
            self.assert_arcs(mirrored(row), expected)

    def test_twice(self):
        for row in small_rows() + long_rows(20):
            self.assert_arcs(mirrored(mirrored(row)), row)


class TestBeside(ArcsCase):
    def test_some(self):
        self.assert_arcs(beside([1, 0], [1, 0]), [1, 0, 3, 2])
        self.assert_arcs(beside([1, 0], [3, 2, 1, 0]), [1, 0, 5, 4, 3, 2])
        self.assert_arcs(beside([3, 2, 1, 0], [1, 0]), [3, 2, 1, 0, 5, 4])

    def test_the_words_stand_side_by_side(self):
        for one in small_rows():
            for other in small_rows():
                told = beside(one, other)
                self.assertEqual(word_of(told), word_of(one) + word_of(other))

    def test_up_to_20_arcs(self):
        for size in range(1, 20):
            for one in (side_by_side(size), nested(size)):
                for other in (side_by_side(20 - size), nested(20 - size)):
                    self.assert_arcs(beside(one, other), one + [there + 2 * size for there in other])

    def test_too_many(self):
        for size in range(1, 21):
            for more in range(21 - size, 21):
                self.assert_refused(TooMany, beside, side_by_side(size), nested(more))

    def test_a_row_beside_itself(self):
        row = nested(10)
        self.assert_arcs(beside(row, row), nested(10) + [there + 20 for there in nested(10)])
        row = nested(11)
        self.assert_refused(TooMany, beside, row, row)


class TestCovered(ArcsCase):
    def test_some(self):
        self.assert_arcs(covered([1, 0]), [3, 2, 1, 0])
        self.assert_arcs(covered([1, 0, 3, 2]), [5, 2, 1, 4, 3, 0])

    def test_the_word_is_put_between(self):
        for row in small_rows():
            self.assertEqual(word_of(covered(row)), "(" + word_of(row) + ")")

    def test_up_to_20_arcs(self):
        row = [1, 0]
        for size in range(2, 21):
            row = covered(row)
            self.assert_arcs(row, nested(size))
        self.assert_arcs(covered(mixed(19)), [39] + [there + 1 for there in mixed(19)] + [0])

    def test_too_many(self):
        for row in long_rows(20):
            self.assert_refused(TooMany, covered, row)


class TestWhichGoesFirst(ArcsCase):
    def test_no_arcs_ahead_of_too_many(self):
        for some in NO_ARCS.values():
            for row in long_rows(20):
                self.assert_refused(NoArcs, beside, row, list(some))
                self.assert_refused(NoArcs, beside, list(some), row)

    def test_21_arcs_are_no_arcs_to_be_covered(self):
        for row in long_rows(21):
            self.assert_refused(NoArcs, covered, row)
            self.assert_refused(NoArcs, beside, row, row)

    def test_the_first_list_ahead_of_the_second(self):
        for first, second, words_of_it in [
            ([], [0], "first"), ([0], [], "first"), ([1, 0], [], "second"), ([], [1, 0], "first"),
        ]:
            with self.assertRaisesRegex(NoArcs, words_of_it):
                beside(first, second)


class TestNothingIsKept(ArcsCase):
    def test_what_is_handed_in_stays_as_it_was(self):
        for row in small_rows() + long_rows(19) + long_rows(20):
            for call in list(CALLS.values()) + [is_arcs]:
                given = list(row)
                try:
                    call(given)
                except TooMany:
                    pass
                self.assertEqual(given, row)

    def test_both_lists_stay_as_they_were(self):
        for one in small_rows():
            first, second = list(one), mirrored(one)
            beside(first, second)
            self.assertEqual((first, second), (one, mirrored(one)))

    def test_what_is_told_is_a_list_of_its_own(self):
        for row in small_rows():
            for name, call in GIVING.items():
                with self.subTest(call=name, row=row):
                    given = list(row)
                    told, again = call(given), call(given)
                    self.assertEqual(told, again)
                    self.assertIsNot(told, again)
                    self.assertIsNot(told, given)

    def test_changing_what_was_handed_in_changes_nothing(self):
        for row in small_rows():
            for call in GIVING.values():
                given = list(row)
                told = call(given)
                before = list(told)
                given.reverse()
                given.append(7)
                given[0] = -1
                self.assertEqual(told, before)
                self.assertEqual(call(list(row)), before)

    def test_changing_what_was_told_changes_nothing(self):
        for row in small_rows():
            for call in GIVING.values():
                given = list(row)
                told = call(given)
                before = list(told)
                told.clear()
                self.assertEqual(given, row)
                self.assertEqual(call(given), before)

    def test_what_is_read_is_a_list_of_its_own(self):
        for row in small_rows():
            word = word_of(row)
            told, again = arcs_of(word), arcs_of(word)
            self.assertIsNot(told, again)
            told.clear()
            self.assertEqual(again, row)
            self.assertEqual(arcs_of(word), row)

    def test_a_list_that_was_asked_may_be_changed_and_asked_again(self):
        given = [1, 0, 3, 2]
        self.assertIs(is_arcs(given), True)
        given[0] = 0
        self.assertIs(is_arcs(given), False)
        self.assert_refused(NoArcs, word_of, given)
        given[0] = 1
        self.assertEqual(word_of(given), "()()")


if __name__ == "__main__":
    unittest.main()
