"""Points 1 and 2: where shelves meet, numbers on many, places near one another."""

import unittest
from copy import deepcopy

from shelvesmeet.errors import BadCount, BadFar, BadShelf, BadShelves
from shelvesmeet.shelves import meet, meet_places, near, on_many
from tests.given import NO_NUMBERS, no_shelves, small_shelves

GREAT = 10 ** 30


class Meet(unittest.TestCase):
    def both(self, one, other, numbers, places):
        self.assertEqual(meet(one, other), numbers)
        self.assertEqual(meet_places(one, other), places)

    def test_none(self):
        self.both([1, 3, 5], [2, 4, 6], [], [])
        self.both([1, 2], [8, 9], [], [])

    def test_some(self):
        self.both([1, 3, 5, 9], [0, 3, 4, 5, 8], [3, 5], [(1, 1), (2, 3)])
        self.both([0, 3, 4, 5, 8], [1, 3, 5, 9], [3, 5], [(1, 1), (3, 2)])

    def test_all(self):
        self.both([4, 6], [3, 4, 5, 6], [4, 6], [(0, 1), (1, 3)])
        self.both([1, 2, 3], [1, 2, 3], [1, 2, 3], [(0, 0), (1, 1), (2, 2)])

    def test_empty(self):
        self.both([], [], [], [])
        self.both([], [1, 2], [], [])
        self.both([1, 2], [], [], [])

    def test_first_and_last_place(self):
        self.both([1, 5, 7], [1, 2, 7], [1, 7], [(0, 0), (2, 2)])

    def test_with_itself(self):
        shelf = [-7, 0, 12]
        self.both(shelf, shelf, [-7, 0, 12], [(0, 0), (1, 1), (2, 2)])

    def test_below_zero(self):
        self.both([-9, -4, -1, 0, 4], [-10, -4, 0, 1], [-4, 0], [(1, 1), (3, 2)])

    def test_far_beyond_sixty_four_bits(self):
        one = [-GREAT - 1, -GREAT, 2 ** 64, GREAT]
        other = [-GREAT, -GREAT + 1, 2 ** 64 + 1, GREAT]
        self.both(one, other, [-GREAT, GREAT], [(1, 0), (3, 3)])
        self.both([10 ** 6000], [10 ** 6000 - 1, 10 ** 6000], [10 ** 6000], [(0, 1)])

    def test_forty_numbers(self):
        one = list(range(0, 80, 2))
        other = list(range(0, 120, 3))
        self.assertEqual((len(one), len(other)), (40, 40))
        numbers = list(range(0, 80, 6))
        self.both(one, other, numbers, [(number // 2, number // 3) for number in numbers])

    def test_kinds(self):
        self.assertIs(type(meet([1], [1])), list)
        self.assertIs(type(meet_places([1], [1])), list)
        self.assertIs(type(meet_places([1], [1])[0]), tuple)

    def test_all_small_shelves(self):
        for one in small_shelves(5):
            for other in small_shelves(5):
                numbers = sorted(set(one) & set(other))
                self.both(one, other, numbers, [(one.index(n), other.index(n)) for n in numbers])


class OnMany(unittest.TestCase):
    SIX = [[1, 2, 3, 4, 5, 6], [2, 3, 4, 5, 6], [3, 4, 5, 6], [4, 5, 6], [5, 6], [6]]

    def test_one_shelf(self):
        self.assertEqual(on_many([[-3, 0, 8]], 1), [-3, 0, 8])
        self.assertEqual(on_many([[]], 1), [])

    def test_six_shelves_each_count(self):
        for many in range(1, 7):
            with self.subTest(many):
                self.assertEqual(on_many(self.SIX, many), list(range(many, 7)))

    def test_in_order_whatever_the_turn_of_the_shelves(self):
        shelves = [[40, 50], [-5, 10, 50], [10, 20, 40], [-GREAT, GREAT]]
        self.assertEqual(on_many(shelves, 1), [-GREAT, -5, 10, 20, 40, 50, GREAT])
        self.assertEqual(on_many(shelves, 2), [10, 40, 50])
        self.assertEqual(on_many(shelves, 3), [])
        self.assertEqual(on_many(shelves[::-1], 2), [10, 40, 50])

    def test_the_same_shelf_more_than_once(self):
        shelf = [1, 4]
        self.assertEqual(on_many([shelf, [4, 5], shelf], 2), [1, 4])
        self.assertEqual(on_many([shelf, [4, 5], shelf], 3), [4])
        self.assertEqual(on_many([shelf] * 6, 6), [1, 4])

    def test_empty_shelves_among_them(self):
        self.assertEqual(on_many([[], [2], []], 1), [2])
        self.assertEqual(on_many([[], [2], []], 2), [])

    def test_forty_numbers_on_each(self):
        shelves = [list(range(at, at + 40)) for at in range(6)]
        self.assertEqual(on_many(shelves, 6), list(range(5, 40)))
        self.assertEqual(on_many(shelves, 1), list(range(45)))

    def test_no_such_shelves(self):
        wrong = [[], [[1]] * 7, None, True, 3, "ab", (), ([1],), {}, {0: [1]}, [1, 2], [None], ["ab"], object()]
        for shelves in wrong:
            for many in (1, 0, None):
                with self.subTest(shelves=shelves, many=many), self.assertRaises(BadShelves):
                    on_many(shelves, many)

    def test_a_member_that_is_no_shelf(self):
        for at, bad in enumerate(no_shelves()):
            for shelves in ([bad, [1], [2]], [[1], bad, [2]], [[1], [2], bad], [bad]):
                with self.subTest(at), self.assertRaises(BadShelves):
                    on_many(shelves, 1)

    def test_no_such_count(self):
        for at, many in enumerate([0, -1, 4, 5, GREAT, -GREAT, 10 ** 5000, *NO_NUMBERS]):
            with self.subTest(at), self.assertRaises(BadCount):
                on_many([[1], [1], [1]], many)
        with self.assertRaises(BadCount):
            on_many([[1]], True)
        with self.assertRaises(BadCount):
            on_many([[1]], 2)


class Near(unittest.TestCase):
    def test_distance_zero_is_meeting(self):
        self.assertEqual(near([1, 3, 5], [3, 4, 5], 0), [(1, 0), (2, 2)])

    def test_small_distances_and_order(self):
        one, other = [1, 4, 9], [0, 2, 5, 8]
        self.assertEqual(near(one, other, 1), [(0, 0), (0, 1), (1, 2), (2, 3)])
        self.assertEqual(near(one, other, 2), [(0, 0), (0, 1), (1, 1), (1, 2), (2, 3)])
        self.assertEqual(
            near(one, other, 4),
            [(0, 0), (0, 1), (0, 2), (1, 0), (1, 1), (1, 2), (1, 3), (2, 2), (2, 3)],
        )

    def test_great_distance_takes_all_pairs_in_order(self):
        every = [(mine, theirs) for mine in range(3) for theirs in range(2)]
        self.assertEqual(near([-GREAT, 0, GREAT], [-1, 1], GREAT + 1), every)
        self.assertEqual(near([-GREAT, 0, GREAT], [-1, 1], GREAT), [(0, 0), (1, 0), (1, 1), (2, 1)])
        self.assertEqual(near([-GREAT, 0, GREAT], [-1, 1], 10 ** 5000), every)

    def test_empty(self):
        self.assertEqual(near([], [], 3), [])
        self.assertEqual(near([], [1], 3), [])
        self.assertEqual(near([1], [], 3), [])

    def test_twelve_numbers_and_more(self):
        for size in (12, 13, 40):
            shelf = list(range(size))
            pairs = [(a, b) for a in range(size) for b in range(size) if b in (a - 1, a, a + 1)]
            self.assertEqual(near(shelf, shelf, 1), pairs)

    def test_kinds(self):
        told = near([1], [2], 1)
        self.assertIs(type(told), list)
        self.assertIs(type(told[0]), tuple)

    def test_no_such_distance(self):
        for at, far in enumerate([-1, -GREAT, -(10 ** 5000), *NO_NUMBERS]):
            with self.subTest(at), self.assertRaises(BadFar):
                near([1], [1], far)
            with self.subTest(at), self.assertRaises(BadFar):
                near([], [], far)


class Refused(unittest.TestCase):
    def test_what_is_no_shelf(self):
        for at, bad in enumerate(no_shelves()):
            for ask in (meet, meet_places):
                for one, other in ((bad, [1]), ([1], bad), (bad, bad), ([], bad), (bad, [])):
                    with self.subTest(ask=ask.__name__, at=at), self.assertRaises(BadShelf):
                        ask(one, other)

    def test_near_refuses_shelves_ahead_of_the_distance(self):
        for at, bad in enumerate(no_shelves()):
            for far in (1, -1, None):
                for one, other in ((bad, [1]), ([1], bad), (bad, bad)):
                    with self.subTest(at=at, far=far), self.assertRaises(BadShelf):
                        near(one, other, far)


class NothingKept(unittest.TestCase):
    def asked(self):
        """Each function with what it is handed, new at each call."""
        shared = [2, 3]
        return [
            (meet, [[1, 2], [2, 3]]),
            (meet_places, [[1, 2], [2, 3]]),
            (on_many, [[[1, 2], shared, shared], 1]),
            (on_many, [[[1, 2]], 1]),
            (near, [[1, 2], [2, 3], 1]),
        ]

    def test_handed_in_stays_as_it_was(self):
        for ask, handed in self.asked():
            ahead = deepcopy(handed)
            ask(*handed)
            self.assertEqual(handed, ahead)

    def test_told_is_new_also_if_changed_between(self):
        for ask, handed in self.asked():
            first = ask(*handed)
            whole = list(first)
            first.append("more")
            first[0] = "other"
            second = ask(*handed)
            self.assertEqual(second, whole)
            self.assertIsNot(second, first)
            for part in handed:
                self.assertIsNot(second, part)
                if isinstance(part, list):
                    for inner in part:
                        self.assertIsNot(second, inner)

    def test_told_does_not_follow_later_changes(self):
        one, other = [1, 2], [1, 2]
        told, places = meet(one, other), meet_places(one, other)
        many, pairs = on_many([one, other], 2), near(one, other, 0)
        one.append(5)
        other.clear()
        self.assertEqual((told, many), ([1, 2], [1, 2]))
        self.assertEqual((places, pairs), ([(0, 0), (1, 1)], [(0, 0), (1, 1)]))
        self.assertEqual(meet(one, other), [])

    def test_one_list_as_both_shelves(self):
        shelf = [1, 2]
        told = meet(shelf, shelf)
        told.append(9)
        self.assertEqual(shelf, [1, 2])

    def test_refusals_change_nothing(self):
        one, other = [3, 1], [1, 2]
        with self.assertRaises(BadShelf):
            meet(one, other)
        self.assertEqual((one, other), ([3, 1], [1, 2]))


if __name__ == "__main__":
    unittest.main()
