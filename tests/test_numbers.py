"""The numbers of arcs: point 5, and what point 12 says of them."""

import inspect
import unittest
from functools import lru_cache

from riverloops import numbers as module
from riverloops.arcs import word_of
from riverloops.errors import NoArcs, NoNumber
from riverloops.numbers import arcs_at, many, number_of
from tests.rows import (
    HUGE, NO_ARCS, NO_SIZES, ArcsCase, many_kinds, nested, read, rows, scattered, side_by_side, small_rows, words,
)

# How many arcs of 1 to 20 there are.
MANY = [
    1, 2, 5, 14, 42, 132, 429, 1430, 4862, 16796, 58786, 208012, 742900, 2674440, 9694845, 35357670, 129644790,
    477638700, 1767263190, 6564120420,
]


def in_order(size):
    """All words of so many arcs in their order: the first is the one with ( at the first place where two differ."""
    return sorted(words(size), key=lambda word: [sign == ")" for sign in word])


@lru_cache(maxsize=None)
def goes_on(waiting, left):
    """How many ways a word goes on for so many places while so many arcs wait for their end."""
    if waiting < 0:
        return 0
    if left == 0:
        return 1 if waiting == 0 else 0
    return goes_on(waiting + 1, left - 1) + goes_on(waiting - 1, left - 1)


def words_ahead(word):
    """How many words are ahead of this one: those that have ( where it has the first ) that differs."""
    count = 0
    for place, sign in enumerate(word):
        if sign == ")":
            waiting = word[:place].count("(") - word[:place].count(")")
            count += goes_on(waiting + 1, len(word) - place - 1)
    return count


def following(word):
    """The word next behind this one: the last ( that can be ) is, and behind it all ( come first."""
    for place in reversed(range(len(word))):
        head = word[:place] + ")"
        waiting = head.count("(") - head.count(")")
        if word[place] == "(" and waiting >= 0:
            opening = len(word) // 2 - head.count("(")
            return head + "(" * opening + ")" * (opening + waiting)
    return None


class TestInterface(unittest.TestCase):
    def test_names_and_arguments(self):
        expected = {"many": ["size"], "arcs_at": ["size", "number"], "number_of": ["arcs"]}
        for name, arguments in expected.items():
            self.assertEqual(list(inspect.signature(getattr(module, name)).parameters), arguments)


class TestMany(ArcsCase):
    def test_1_to_20(self):
        for size, expected in enumerate(MANY, start=1):
            self.assert_number(many(size), expected)

    def test_as_many_as_are_found(self):
        for size in range(1, 6):
            self.assert_number(many(size), len(rows(size)))
        for size in range(1, 8):
            self.assert_number(many(size), len(words(size)))

    def test_no_number(self):
        for size in NO_SIZES:
            self.assert_refused(NoNumber, many, size)


class TestArcsAt(ArcsCase):
    def test_arcs_of_3(self):
        found = [word_of(arcs_at(3, number)) for number in range(5)]
        self.assertEqual(found, ["((()))", "(()())", "(())()", "()(())", "()()()"])

    def test_all_of_1_to_7_in_the_order_of_their_words(self):
        for size in range(1, 8):
            for number, word in enumerate(in_order(size)):
                self.assert_arcs(arcs_at(size, number), read(word))

    def test_the_first_and_the_last(self):
        for size, last in enumerate([count - 1 for count in MANY], start=1):
            self.assert_arcs(arcs_at(size, 0), nested(size))
            self.assert_arcs(arcs_at(size, last), side_by_side(size))

    def test_some_of_20(self):
        count = MANY[19]
        for number in [0, 1, 2, 19, 20, 21, count // 3, count // 2, 1767263189, 1767263190, count - 3, count - 2]:
            word = word_of(arcs_at(20, number))
            self.assertEqual(words_ahead(word), number)
            self.assertEqual(word_of(arcs_at(20, number + 1)), following(word))

    def test_no_arcs_of_a_size_that_is_none(self):
        for size in NO_SIZES:
            for number in (0, 1, -1, HUGE, -HUGE):
                self.assert_refused(NoNumber, arcs_at, size, number)

    def test_a_number_that_no_arcs_have(self):
        for size, count in enumerate(MANY, start=1):
            for number in (count, count + 1, 2 * count, HUGE, 10 ** 70, -1, -2, -count, -count - 1, -HUGE):
                self.assert_refused(NoNumber, arcs_at, size, number)


class TestNumberOf(ArcsCase):
    def test_all_of_1_to_7(self):
        for size in range(1, 8):
            for number, word in enumerate(in_order(size)):
                self.assert_number(number_of(read(word)), number)

    def test_the_first_and_the_last(self):
        for size, count in enumerate(MANY, start=1):
            self.assert_number(number_of(nested(size)), 0)
            self.assert_number(number_of(side_by_side(size)), count - 1)

    def test_some_of_20(self):
        for row in many_kinds(20):
            self.assert_number(number_of(row), words_ahead(word_of(row)))

    def test_no_arcs(self):
        for some in NO_ARCS.values():
            self.assert_refused(NoArcs, number_of, list(some))


class TestThereAndBack(ArcsCase):
    def test_each_small_row_is_found_by_its_number(self):
        for row in small_rows():
            self.assert_arcs(arcs_at(len(row) // 2, number_of(row)), row)

    def test_each_number_of_8_is_found_again(self):
        for number in range(MANY[7]):
            self.assert_number(number_of(arcs_at(8, number)), number)

    def test_numbers_of_20(self):
        for number in list(range(MANY[19] // 97, MANY[19], MANY[19] // 97)) + [0, 1, MANY[19] - 2, MANY[19] - 1]:
            self.assert_number(number_of(arcs_at(20, number)), number)

    def test_rows_of_6_to_20(self):
        for size in range(6, 21):
            for row in many_kinds(size) + [scattered(size, seed) for seed in range(12, 40)]:
                self.assert_arcs(arcs_at(size, number_of(row)), row)


if __name__ == "__main__":
    unittest.main()
