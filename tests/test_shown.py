"""Points 1, 6 and 7: whether looks show where two shelves meet, and the fewest that do."""

import unittest
from copy import deepcopy

from shelvesmeet.answers import Open, Shown
from shelvesmeet.errors import BadLooks, BadShelf
from shelvesmeet.shown import fewest_looks, judged
from tests.apart import all_two, every_look, is_open, some_of
from tests.given import GREAT, no_looks, no_shelves


def shown_by_all(one, other, looks, pairs):
    """Whether none of all pairs of shelves answers so and meets elsewhere."""
    return not any(is_open(mine, theirs, one, other, looks) for mine, theirs in pairs)


class Judged(unittest.TestCase):
    def shown(self, one, other, looks):
        told = judged(one, other, looks)
        self.assertIs(type(told), Shown)
        self.assertIs(told.shows(one, other, looks), True)

    def left_open(self, one, other, looks):
        told = judged(one, other, looks)
        self.assertIs(type(told), Open)
        self.assertTrue(is_open(told.mine, told.theirs, one, other, looks))
        self.assertIs(told.shows(one, other, looks), True)
        self.assertIs(Shown().shows(one, other, looks), False)

    def test_empty_shelves_are_shown_by_no_look(self):
        self.shown([], [], [])
        self.shown([1, 2], [], [])
        self.shown([], [1, 2], [])

    def test_one_number_each(self):
        for one, other in (([1], [1]), ([1], [2]), ([2], [1])):
            self.left_open(one, other, [])
            self.shown(one, other, [(0, 0)])

    def test_where_they_meet(self):
        one, other = [1, 2], [1, 2]
        self.shown(one, other, [(0, 0), (1, 1)])
        self.left_open(one, other, [(0, 0)])
        self.left_open(one, other, [(1, 1)])
        self.left_open(one, other, [(0, 1), (1, 0)])

    def test_neighbours(self):
        one, other = [1, 5], [3]
        self.shown(one, other, [(0, 0), (1, 0)])
        self.left_open(one, other, [(0, 0)])
        self.left_open(one, other, [(1, 0)])

    def test_a_number_where_they_meet_is_no_neighbour_alone(self):
        # 1 and 2, 2 and 3 are neighbours, but 2 stands on both.
        self.shown([1, 2], [2, 3], [(1, 0)])
        self.left_open([1, 2], [2, 3], [(0, 0), (0, 1), (1, 1)])

    def test_looks_twice_and_out_of_turn(self):
        one, other = [1, 4, 6], [4, 5, 9]
        needed = [(1, 0), (2, 1), (2, 2)]
        self.shown(one, other, needed[::-1])
        self.shown(one, other, needed + needed)
        self.shown(one, other, [(2, 1), (0, 0), (1, 0), (2, 1), (0, 2), (2, 2), (1, 0)])
        self.left_open(one, other, [(2, 1), (2, 1), (1, 0), (1, 0)])
        self.left_open(one, other, [(2, 2), (2, 1), (0, 0), (2, 1), (0, 2)])

    def test_any_sign_and_size(self):
        one, other = [-GREAT, -1, 10 ** 6000], [-GREAT, 0, 10 ** 6000 + 1]
        self.shown(one, other, [(0, 0), (1, 1), (2, 1), (2, 2)])
        for looks in ([(1, 1), (2, 1), (2, 2)], [(0, 0), (2, 1), (2, 2)], [(0, 0), (1, 1), (2, 1)]):
            self.left_open(one, other, looks)

    def test_numbers_that_follow_one_another_leave_no_room(self):
        one, other = [0, 1, 2, 3], [0, 1, 2, 3]
        needed = [(at, at) for at in range(4)]
        self.shown(one, other, needed)
        for look in needed:
            self.left_open(one, other, [kept for kept in every_look(one, other) if kept != look])

    def test_forty_numbers_and_each_needed_look_left_out(self):
        pairs = [
            (list(range(0, 80, 2)), list(range(1, 81, 2))),
            (list(range(40)), list(range(40))),
            (list(range(-40, 40, 2)), list(range(-60, 60, 3))),
            (list(range(40)), list(range(40, 80))),
        ]
        for one, other in pairs:
            needed = fewest_looks(one, other)
            more = [look for look in every_look(one, other) if look not in needed]
            looks = (more[:600 - len(needed)] + needed)[::-1]
            self.assertEqual(len(looks), 600)
            self.shown(one, other, looks)
            for look in needed:
                self.left_open(one, other, [kept for kept in looks if kept != look])

    def test_six_hundred_looks_the_same(self):
        self.shown([1], [1], [(0, 0)] * 600)
        self.left_open([1], [1, 2], [(0, 1)] * 600)

    def test_all_small_shelves_with_all_looks(self):
        for sizes in ((1, 1), (1, 2), (2, 1), (2, 2), (1, 3), (2, 3), (3, 2)):
            pairs = all_two(*sizes)
            for one, other in pairs:
                for looks in some_of(every_look(one, other)):
                    if shown_by_all(one, other, looks, pairs):
                        self.shown(one, other, looks)
                    else:
                        self.left_open(one, other, looks)

    def test_three_and_three_with_seven_looks_or_more(self):
        pairs = all_two(3, 3)
        self.assertEqual(len(pairs), 63)
        for one, other in pairs:
            for looks in some_of(every_look(one, other)):
                if len(looks) < 7:
                    continue
                if shown_by_all(one, other, looks, pairs):
                    self.shown(one, other, looks)
                else:
                    self.left_open(one, other, looks)


class FewestLooks(unittest.TestCase):
    def told(self, one, other, looks):
        self.assertEqual(fewest_looks(one, other), looks)

    def test_empty(self):
        self.told([], [], [])
        self.told([], [1, 2], [])
        self.told([1, 2], [], [])

    def test_one_number_each(self):
        self.told([5], [5], [(0, 0)])
        self.told([5], [6], [(0, 0)])
        self.told([6], [5], [(0, 0)])

    def test_one_wholly_below(self):
        self.told([1, 2, 3], [7, 8], [(2, 0)])
        self.told([7, 8], [1, 2, 3], [(0, 2)])

    def test_by_turns(self):
        self.told([1, 3, 5], [2, 4, 6], [(0, 0), (1, 0), (1, 1), (2, 1), (2, 2)])
        self.told([2, 4, 6], [1, 3, 5], [(0, 0), (0, 1), (1, 1), (1, 2), (2, 2)])

    def test_equal(self):
        self.told([-4, 0, 7], [-4, 0, 7], [(0, 0), (1, 1), (2, 2)])

    def test_some_meet(self):
        # 0 other, 1 one, 4 both, 5 other, 6 one, 9 both, 12 other.
        self.told([1, 4, 6, 9], [0, 4, 5, 9, 12], [(0, 0), (1, 1), (2, 2), (3, 3)])

    def test_neighbours_far_apart(self):
        self.told([-GREAT, 10 ** 6000], [0], [(0, 0), (1, 0)])

    def test_forty_numbers(self):
        evens, odds = list(range(0, 80, 2)), list(range(1, 80, 2))
        looks = []
        for at in range(40):
            looks += [(at, at), (at + 1, at)]
        self.told(evens, odds, looks[:-1])
        self.told(evens, evens, [(at, at) for at in range(40)])

    def test_none_fewer_show_it(self):
        for sizes in ((1, 1), (1, 2), (2, 1), (2, 2), (1, 3), (3, 1), (2, 3), (3, 2)):
            pairs = all_two(*sizes)
            for one, other in pairs:
                choices = some_of(every_look(one, other))
                fewest = next(looks for looks in choices if shown_by_all(one, other, looks, pairs))
                self.told(one, other, fewest)

    def test_in_order_and_each_once(self):
        for one, other in all_two(3, 4):
            looks = fewest_looks(one, other)
            self.assertEqual(looks, sorted(set(looks)))


class Refused(unittest.TestCase):
    def test_what_is_no_shelf_ahead_of_looks(self):
        for at, bad in enumerate(no_shelves()):
            for one, other in ((bad, [1]), ([1], bad), (bad, bad), ([], bad), (bad, [])):
                with self.subTest(at), self.assertRaises(BadShelf):
                    fewest_looks(one, other)
                for looks in ([], [(0, 0)], None, [(7, 7)]):
                    with self.subTest(at=at, looks=looks), self.assertRaises(BadShelf):
                        judged(one, other, looks)

    def test_what_are_no_looks(self):
        for at, looks in enumerate(no_looks(2, 3)):
            with self.subTest(at), self.assertRaises(BadLooks):
                judged([1, 2], [2, 3, 4], looks)

    def test_places_are_each_of_their_own_shelf(self):
        self.assertIs(type(judged([1, 2], [2, 3, 4], [(1, 2)])), Open)
        with self.assertRaises(BadLooks):
            judged([1, 2], [2, 3, 4], [(2, 1)])

    def test_empty_shelves_have_no_places(self):
        for one, other in (([], []), ([1], []), ([], [1])):
            for look in ((0, 0), (-1, 0), (0, -1)):
                with self.subTest(one=one, other=other, look=look), self.assertRaises(BadLooks):
                    judged(one, other, [look])


class NothingKept(unittest.TestCase):
    def test_kinds(self):
        told = fewest_looks([1, 2], [2, 3, 4])
        self.assertIs(type(told), list)
        self.assertTrue(all(type(look) is tuple for look in told))
        for looks in ([], [(1, 0)]):
            told = judged([1, 2, 5], [2, 3, 4], looks)
            self.assertIs(type(told.mine), list)
            self.assertIs(type(told.theirs), list)
            self.assertTrue(all(type(number) is int for number in told.mine + told.theirs))

    def test_handed_in_stays_as_it_was(self):
        for looks in ([], [(1, 0)], [(1, 0), (2, 2)], [(2, 1), (1, 0), (2, 2)]):
            handed = [[1, 2, 5], [2, 3, 4], looks]
            ahead = deepcopy(handed)
            judged(*handed)
            fewest_looks(*handed[:2])
            self.assertEqual(handed, ahead)

    def test_told_is_new(self):
        for one, other, looks in (([1, 2], [2, 3], []), ([1], [2], []), ([2], [1], [])):
            told, again = judged(one, other, looks), judged(one, other, looks)
            lists = [told.mine, told.theirs, again.mine, again.theirs, one, other, looks]
            self.assertEqual(len({id(part) for part in lists}), len(lists))

    def test_one_list_as_both_shelves(self):
        shelf = [1, 2]
        told = judged(shelf, shelf, [])
        self.assertIsNot(told.mine, told.theirs)
        told.mine.append(9)
        self.assertEqual((shelf, len(told.theirs)), ([1, 2], 2))

    def test_told_does_not_follow_later_changes(self):
        one, other, looks = [1], [2], []
        told = judged(one, other, looks)
        fields = (list(told.mine), list(told.theirs))
        one[0] = 70
        other.clear()
        looks.append((0, 0))
        self.assertEqual((told.mine, told.theirs), fields)

    def test_changing_what_is_told_changes_nothing_else(self):
        one, other = [1, 3], [2]
        fewest_looks(one, other).clear()
        judged(one, other, []).mine.clear()
        self.assertEqual(fewest_looks(one, other), [(0, 0), (1, 0)])
        self.assertEqual((one, other), ([1, 3], [2]))
        self.assertEqual(len(judged(one, other, []).mine), 2)


if __name__ == "__main__":
    unittest.main()
