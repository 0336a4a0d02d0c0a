"""[3.1], [3.2], and what [8.1] says of leasts."""

import copy
import itertools
import unittest

from lettermoat.errors import LetterError, NoMove
from lettermoat.roads import all_within, leasts, places_lost, places_taken, put_on, within, without

from tests.samples import tuples_all_down

A = ("a", 0)
B = ("b", 0)
C = ("b", 1)
D = ("c", 0)

ROW = ("row", 2, False)
HEAP = ("heap", 3, False)
WIDE = ("row", None, True)


def short_words(signs, most):
    return [word for size in range(most + 1) for word in itertools.product(signs, repeat=size)]


class PutOn(unittest.TestCase):

    def test_row(self):
        self.assertEqual(put_on(ROW, (), B), (B,))
        self.assertEqual(put_on(ROW, (B,), A), (B, A))
        self.assertEqual(put_on(("row", 3, True), (B, B), A), (B, B, A))
        self.assertEqual(put_on(ROW, (B,), B), (B, B))

    def test_heap(self):
        self.assertEqual(put_on(HEAP, (), C), (C,))
        self.assertEqual(put_on(HEAP, (B, D), C), (B, C, D))
        self.assertEqual(put_on(HEAP, (B, D), A), (A, B, D))
        self.assertEqual(put_on(HEAP, (B, C), B), (B, B, C))
        self.assertEqual(put_on(HEAP, (A, B), D), (A, B, D))

    def test_full(self):
        self.assertIsNone(put_on(ROW, (A, B), A))
        self.assertIsNone(put_on(("row", 1, True), (A,), A))
        self.assertIsNone(put_on(HEAP, (A, B, D), A))
        self.assertIsNone(put_on(("heap", 1, True), (D,), A))

    def test_wide(self):
        letters = ()
        for count in range(50):
            letters = put_on(WIDE, letters, (B, A)[count % 2])
        self.assertEqual(letters, (B, A) * 25)

    def test_beyond_the_bounds(self):
        self.assertEqual(put_on(("row", 9, False), (A,) * 8, ("abcdefghij", 7)), (A,) * 8 + (("abcdefghij", 7),))
        self.assertIsNone(put_on(ROW, (A, A, A), A))


class Places(unittest.TestCase):

    def test_taken_from_a_row(self):
        self.assertEqual(places_taken(ROW, ()), ())
        self.assertEqual(places_taken(ROW, (B,)), (0,))
        self.assertEqual(places_taken(ROW, (B, A)), (0,))
        self.assertEqual(places_taken(ROW, (A, A)), (0,))
        self.assertEqual(places_taken(WIDE, (B, A, A, B)), (0,))

    def test_taken_from_a_heap(self):
        self.assertEqual(places_taken(HEAP, ()), ())
        self.assertEqual(places_taken(HEAP, (A, B, D)), (0, 1, 2))
        self.assertEqual(places_taken(HEAP, (A, A, B)), (0, 2))
        self.assertEqual(places_taken(HEAP, (A, B, B)), (0, 1))
        self.assertEqual(places_taken(HEAP, (B, C, C)), (0, 1))
        self.assertEqual(places_taken(("heap", 3, True), (A, A, A)), (0,))

    def test_lost_where_nothing_is_lost(self):
        self.assertEqual(places_lost(ROW, (A, B)), ())
        self.assertEqual(places_lost(HEAP, (A, B, D)), ())
        self.assertEqual(places_lost(ROW, ()), ())

    def test_lost(self):
        for road in (WIDE, ("row", 3, True), ("heap", 3, True)):
            self.assertEqual(places_lost(road, ()), ())
            self.assertEqual(places_lost(road, (A, B, D)), (0, 1, 2))
            self.assertEqual(places_lost(road, (A, A, B)), (0, 2))
            self.assertEqual(places_lost(road, (A, B, B)), (0, 1))
            self.assertEqual(places_lost(road, (B, C)), (0, 1))
            self.assertEqual(places_lost(road, (A, A, A)), (0,))

    def test_lost_from_a_row_like_letters_apart(self):
        self.assertEqual(places_lost(("row", 3, True), (A, B, A)), (0, 1, 2))
        self.assertEqual(places_lost(WIDE, (A, A, B, B, A, A, A, B)), (0, 2, 4, 7))


class Without(unittest.TestCase):

    def test_each_place(self):
        self.assertEqual(without((A, B, D), 0), (B, D))
        self.assertEqual(without((A, B, D), 1), (A, D))
        self.assertEqual(without((A, B, D), 2), (A, B))
        self.assertEqual(without((A,), 0), ())

    def test_a_like_letter_behind_another(self):
        self.assertEqual(without((A, A, B), 1), (A, B))

    def test_no_such_place(self):
        for letters, place in (
            ((A, B), -1), ((A, B), -2), ((A, B), 2), ((A, B), 3), ((), 0), ((), -1), ((A,), 10 ** 30),
        ):
            with self.subTest((letters, place)):
                with self.assertRaises(NoMove) as caught:
                    without(letters, place)
                self.assertIsInstance(caught.exception, LetterError)


class Within(unittest.TestCase):

    def test_ordinary(self):
        self.assertEqual(within((A, B), (D, A, D, B)), (1, 3))
        self.assertEqual(within((A, B), (A, B)), (0, 1))
        self.assertEqual(within((A, B), (A, A, B, B)), (0, 2))
        self.assertEqual(within((A, A), (B, A, B, A, A)), (1, 3))

    def test_none(self):
        self.assertIsNone(within((A, B), (B, A)))
        self.assertIsNone(within((A,), ()))
        self.assertIsNone(within((A, A), (A,)))
        self.assertIsNone(within((A, A), (A, B)))
        self.assertIsNone(within((B,), (C,)))
        self.assertIsNone(within((A, B, D), (A, B)))

    def test_empty(self):
        self.assertEqual(within((), ()), ())
        self.assertEqual(within((), (A, B)), ())

    def test_heaps(self):
        self.assertEqual(within((A, B, B), (A, A, B, B, D)), (0, 2, 3))
        self.assertIsNone(within((A, A, B), (A, B, B)))

    def test_least_of_all_places(self):
        words = short_words((A, B, C), 4)
        for some in short_words((A, B, C), 3):
            for others in words:
                shown = [places for places in itertools.combinations(range(len(others)), len(some))
                         if tuple(others[k] for k in places) == some]
                self.assertEqual(within(some, others), min(shown, default=None), (some, others))

    def test_all_within(self):
        self.assertIs(all_within((), ()), True)
        self.assertIs(all_within(((),), ((),)), True)
        self.assertIs(all_within(((), ()), ((A,), ())), True)
        self.assertIs(all_within(((A,), (B,)), ((A, D), (A, B))), True)
        self.assertIs(all_within(((A,), (B,)), ((A, B), ())), False)
        self.assertIs(all_within(((A,), (B,)), ((B,), (B,))), False)
        self.assertIs(all_within(((A,), (B,)), ((B,), (A,))), False)
        self.assertIs(all_within(((A, B),), ((B, A),)), False)


class Leasts(unittest.TestCase):

    def test_none(self):
        self.assertEqual(leasts(()), ())

    def test_without_roads(self):
        self.assertEqual(leasts(((), ())), ((),))

    def test_twice(self):
        self.assertEqual(leasts((((A,),), ((A,),))), (((A,),),))

    def test_within_one_another(self):
        self.assertEqual(leasts((((A, B, A),), ((A, B),), ((B,),), ((D, D),))), (((B,),), ((D, D),)))
        self.assertEqual(leasts((((),), ((A,),), ((A, B),))), (((),),))
        self.assertEqual(leasts((((A,), ()), ((), (A,)), ((A,), (A,)))), (((), (A,)), ((A,), ())))

    def test_rising(self):
        self.assertEqual(leasts((((D,),), ((A, A),), ((B,),))), (((A, A),), ((B,),), ((D,),)))

    def test_neither_within_the_other(self):
        self.assertEqual(leasts((((B, A),), ((A, B),))), (((A, B),), ((B, A),)))

    def test_a_row_ahead_of_the_one_within_it(self):
        self.assertEqual(leasts((((A, B),), ((B,),))), (((B,),),))

    def test_as_told_one_by_one(self):
        words = short_words((A, B), 2)
        rows = list(itertools.product(words, repeat=2))
        for first in range(0, len(rows), 3):
            for step in range(1, 12):
                some = tuple(rows[first::step])
                kept = sorted(set(row for row in some
                                  if not any(other != row and all_within(other, row) for other in some)))
                self.assertEqual(leasts(some), tuple(kept))
                self.assertEqual(leasts(some[::-1]), tuple(kept))


class NothingChanged(unittest.TestCase):

    def test_the_same_again(self):
        letters = (A, B, B)
        rows = (((A, B),), ((B,),))
        before = copy.deepcopy((letters, rows))
        for ask in (
            lambda: put_on(WIDE, letters, A), lambda: put_on(("heap", 9, True), letters, A),
            lambda: places_taken(HEAP, letters), lambda: places_lost(WIDE, letters), lambda: without(letters, 1),
            lambda: within((B,), letters), lambda: leasts(rows),
        ):
            told = ask()
            self.assertTrue(tuples_all_down(told))
            self.assertIsInstance(told, tuple)
            self.assertEqual(ask(), told)
        self.assertEqual((letters, rows), before)


if __name__ == "__main__":
    unittest.main()
