"""Points 1, 11 and 12: the best on many lists, and the depth that settles them."""

import unittest
from copy import deepcopy
from itertools import product

from shelvesmeet.answers import Settled, Unsettled
from shelvesmeet.best import best, depth_of, judged_to
from shelvesmeet.errors import BadCount, BadLists, BadPlace
from tests.apart import all_lists, best_by, by_thing, is_unsettled, seen_or_may_be
from tests.given import TWO, no_lists, no_numbers_within


def settled_by_all(lists, many, depth):
    """Whether the best are the same by all worths that are tried."""
    tried = [list(product(*row)) for row in seen_or_may_be(lists, depth)]
    wanted = best_by(by_thing(lists), many)
    return all(best_by(worths, many) == wanted for worths in product(*tried))


class Best(unittest.TestCase):
    def test_each_count(self):
        for many in range(5):
            self.assertEqual(best(TWO, many), [1, 0, 2, 3][:many])

    def test_one_list_and_one_thing(self):
        self.assertEqual(best([[(0, 7)]], 0), [])
        self.assertEqual(best([[(0, 7)]], 1), [0])
        self.assertEqual(best([[(0, 0)]], 1), [0])

    def test_one_list(self):
        self.assertEqual(best([[(2, 1000), (0, 500), (1, 0)]], 3), [2, 0, 1])

    def test_alike_totals(self):
        self.assertEqual(best([[(2, 5), (1, 5), (0, 5)]], 3), [0, 1, 2])
        self.assertEqual(best([[(2, 5), (1, 5), (0, 5)]], 1), [0])
        self.assertEqual(best([[(1, 6), (0, 4)], [(0, 6), (1, 4)]], 2), [0, 1])
        self.assertEqual(best([[(2, 6), (1, 6), (0, 5)]], 2), [1, 2])

    def test_four_lists_of_eight_things(self):
        rows = [(thing, 1000 - 10 * at) for at, thing in enumerate([7, 6, 5, 4, 3, 2, 1, 0])]
        self.assertEqual(best([rows] * 4, 8), [7, 6, 5, 4, 3, 2, 1, 0])
        rising = [(thing, 1000 - 10 * thing) for thing in range(8)]
        self.assertEqual(best([rows, rising, rising, rows], 8), list(range(8)))
        self.assertEqual(best([rows, rising, rising, rising], 3), [0, 1, 2])

    def test_all_small_lists(self):
        for rows in all_lists(3, 3):
            for lists in ([rows], [rows, TWO[0][:1] + [(0, 8), (2, 0)]]):
                for many in range(4):
                    self.assertEqual(best(lists, many), best_by(by_thing(lists), many))

    def test_kind(self):
        self.assertIs(type(best(TWO, 0)), list)
        self.assertIs(type(best(TWO, 2)), list)
        self.assertTrue(all(type(thing) is int for thing in best(TWO, 4)))


class JudgedTo(unittest.TestCase):
    def settled(self, lists, many, depth):
        told = judged_to(lists, many, depth)
        self.assertIs(type(told), Settled)
        self.assertEqual(told.things, best_by(by_thing(lists), many))
        self.assertIs(told.shows(lists, many, depth), True)

    def unsettled(self, lists, many, depth):
        told = judged_to(lists, many, depth)
        self.assertIs(type(told), Unsettled)
        self.assertTrue(is_unsettled(told.worths, lists, many, depth))
        self.assertIs(told.shows(lists, many, depth), True)
        self.assertIs(Settled(best_by(by_thing(lists), many)).shows(lists, many, depth), False)

    def judged_rightly(self, lists, many, depth):
        if settled_by_all(lists, many, depth):
            self.settled(lists, many, depth)
        else:
            self.unsettled(lists, many, depth)

    def test_none_are_settled_at_once(self):
        for depth in range(5):
            self.settled(TWO, 0, depth)

    def test_one_thing_is_settled_at_once(self):
        for lists in ([[(0, 7)]], [[(0, 0)]] * 4):
            for many in (0, 1):
                for depth in (0, 1):
                    self.settled(lists, many, depth)

    def test_nothing_seen(self):
        for many in range(1, 5):
            self.unsettled(TWO, many, 0)
        self.unsettled([[(0, 1000), (1, 1000)]], 1, 0)
        self.unsettled([[(0, 1000), (1, 0)]], 2, 0)

    def test_all_seen(self):
        for many in range(5):
            self.settled(TWO, many, 4)
        self.settled([[(2, 5), (1, 5), (0, 5)]], 3, 3)

    def test_by_hand(self):
        # To depth 1: 1 has 10 to 19, 2 has 9 to 19, 0 and 3 have 0 to 19.
        self.unsettled(TWO, 1, 1)
        # To depth 2: 1 has 16; 0 has 8 to 14, 2 has 9 to 17, 3 has 0 to 14.
        self.unsettled(TWO, 1, 2)
        # To depth 3: 1 has 16; 0 has 9, 2 has 9 to 13, 3 has 4 to 5.
        self.settled(TWO, 1, 3)
        self.unsettled(TWO, 2, 3)
        self.unsettled(TWO, 3, 3)

    def test_alike_totals_at_the_edge(self):
        # The unseen thing may be worth as much as the last one seen: then the lesser thing is first.
        self.settled([[(0, 5), (1, 3)]], 1, 1)
        self.settled([[(0, 5), (1, 3)]], 2, 1)
        self.unsettled([[(1, 5), (0, 3)]], 1, 1)
        self.settled([[(0, 5), (1, 5)]], 1, 1)
        self.settled([[(1, 6), (0, 5), (2, 5)]], 2, 2)
        self.settled([[(1, 6), (0, 5), (2, 5)]], 3, 2)
        self.unsettled([[(1, 6), (2, 5), (0, 0)]], 2, 2)
        self.settled([[(1, 6), (2, 5), (0, 0)]], 1, 2)

    def test_a_last_row_of_no_worth(self):
        self.settled([[(1, 5), (0, 0), (2, 0)]], 3, 2)
        self.unsettled([[(1, 5), (2, 0), (0, 0)]], 3, 1)
        self.settled([[(1, 5), (2, 0), (0, 0)]], 3, 2)
        self.settled([[(0, 0), (1, 0)]], 2, 1)
        self.settled([[(1, 0), (0, 0)]], 2, 1)

    def test_the_bound_is_each_list_its_own(self):
        # To depth 1: 0 has 10, 1 has 0 to 2 beyond 0 to 7.
        self.settled([[(0, 8), (1, 0)], [(0, 2), (1, 0)]], 1, 1)
        self.unsettled([[(0, 8), (1, 0)], [(1, 2), (0, 0)]], 1, 1)

    def test_in_another_turn_is_unsettled(self):
        # Both are seen to be among the best two, but not which is first.
        lists = [[(0, 9), (1, 8), (2, 0)], [(1, 9), (0, 8), (2, 0)], [(1, 1), (0, 1), (2, 0)]]
        self.unsettled(lists, 2, 1)
        self.settled(lists, 2, 2)

    def test_four_lists_of_eight_things(self):
        rows = [(thing, 1000 - 100 * at) for at, thing in enumerate([3, 1, 4, 0, 5, 7, 2, 6])]
        # So many rows settle so many things where the last one seen is less than all unseen things,
        # which may have the same total: 0, and then 2.
        for many, least in enumerate([0, 2, 3, 4, 4, 6, 7, 7, 7]):
            for depth in range(9):
                if depth < least:
                    self.unsettled([rows] * 4, many, depth)
                else:
                    self.settled([rows] * 4, many, depth)

    def test_all_small_lists(self):
        for rows in all_lists(3, 2):
            for many in range(4):
                for depth in range(4):
                    self.judged_rightly([rows], many, depth)

    def test_all_two_small_lists(self):
        for lists in product(all_lists(2, 3), repeat=2):
            for many in range(3):
                for depth in range(3):
                    self.judged_rightly(list(lists), many, depth)

    def test_some_two_lists_of_three_things(self):
        for lists in list(product(all_lists(3, 2), repeat=2))[::17]:
            for many in (1, 2, 3):
                for depth in (1, 2, 3):
                    self.judged_rightly(list(lists), many, depth)

    def test_great_worths(self):
        self.settled([[(0, 1000), (1, 1000)]], 2, 1)
        self.unsettled([[(1, 1000), (0, 0)]], 1, 1)
        self.unsettled([[(1, 1000), (0, 999)]], 2, 1)


class DepthOf(unittest.TestCase):
    def test_by_hand(self):
        self.assertEqual([depth_of(TWO, many) for many in range(5)], [0, 3, 4, 4, 4])

    def test_one_thing(self):
        self.assertEqual(depth_of([[(0, 7)]], 0), 0)
        self.assertEqual(depth_of([[(0, 7)]], 1), 0)

    def test_none(self):
        self.assertEqual(depth_of([[(0, 7), (1, 7)]] * 4, 0), 0)

    def test_alike_totals(self):
        self.assertEqual(depth_of([[(0, 5), (1, 5)]], 1), 1)
        self.assertEqual(depth_of([[(1, 5), (0, 5)]], 1), 2)
        self.assertEqual(depth_of([[(1, 5), (0, 4)]], 1), 2)

    def test_eight_things(self):
        rows = [(thing, 800 - 100 * thing) for thing in range(8)]
        self.assertEqual([depth_of([rows] * 4, many) for many in range(9)], [0, 1, 2, 3, 4, 5, 6, 7, 7])

    def test_it_settles_and_none_less_does(self):
        for rows in all_lists(3, 2):
            for lists in ([rows], [rows, [(1, 2), (2, 1), (0, 0)]]):
                for many in range(4):
                    told = depth_of(lists, many)
                    kinds = [type(judged_to(lists, many, depth)) for depth in range(4)]
                    self.assertEqual(kinds, [Unsettled] * told + [Settled] * (4 - told))

    def test_kind(self):
        self.assertIs(type(depth_of(TWO, 0)), int)


class Refused(unittest.TestCase):
    def test_what_are_no_lists_ahead_of_all(self):
        for at, lists in enumerate(no_lists()):
            for many in (0, 1, -1, None, True):
                for ask in (best, depth_of):
                    with self.subTest(ask=ask.__name__, at=at, many=many), self.assertRaises(BadLists):
                        ask(lists, many)
                for depth in (0, -1, None):
                    with self.subTest(at=at, many=many, depth=depth), self.assertRaises(BadLists):
                        judged_to(lists, many, depth)

    def test_no_such_count(self):
        for at, many in enumerate(no_numbers_within(0, 4)):
            for ask in (best, depth_of):
                with self.subTest(ask=ask.__name__, at=at), self.assertRaises(BadCount):
                    ask(TWO, many)

    def test_count_ahead_of_the_depth(self):
        for at, many in enumerate(no_numbers_within(0, 4)):
            for depth in (0, 4, 5, -1, None, True):
                with self.subTest(at=at, depth=depth), self.assertRaises(BadCount):
                    judged_to(TWO, many, depth)

    def test_no_such_depth(self):
        for at, depth in enumerate(no_numbers_within(0, 4)):
            for many in (0, 2, 4):
                with self.subTest(at=at, many=many), self.assertRaises(BadPlace):
                    judged_to(TWO, many, depth)

    def test_edges_are_taken(self):
        eight = [(thing, 1000) for thing in range(8)]
        self.assertEqual(best([eight] * 4, 8), list(range(8)))
        self.assertEqual(best([[(0, 1000), (1, 0)]], 2), [0, 1])
        self.assertIs(type(judged_to([eight] * 4, 8, 8)), Settled)


class NothingKept(unittest.TestCase):
    def test_handed_in_stays_as_it_was(self):
        lists = deepcopy(TWO)
        for many in range(5):
            best(lists, many)
            depth_of(lists, many)
            for depth in range(5):
                judged_to(lists, many, depth)
        self.assertEqual(lists, TWO)

    def test_told_is_new(self):
        first, second = best(TWO, 2), best(TWO, 2)
        first.clear()
        self.assertEqual((second, best(TWO, 2)), ([1, 0], [1, 0]))
        first, second = judged_to(TWO, 1, 3), judged_to(TWO, 1, 3)
        first.things.clear()
        self.assertEqual((second.things, judged_to(TWO, 1, 3).things), ([1], [1]))

    def test_worths_are_new_each(self):
        rows = [(0, 5), (1, 3), (2, 1)]
        for depth in (0, 1):
            lists = [rows, [(1, 5), (0, 3), (2, 1)], rows, rows]
            first, second = judged_to(lists, 2, depth), judged_to(lists, 2, depth)
            parts = [first.worths, second.worths, *first.worths, *second.worths]
            self.assertEqual(len({id(part) for part in parts}), len(parts))
            self.assertTrue(all(type(part) is list for part in parts))
            whole = deepcopy(second.worths)
            first.worths[0][0] = 77
            lists.clear()
            self.assertEqual(second.worths, whole)


if __name__ == "__main__":
    unittest.main()
