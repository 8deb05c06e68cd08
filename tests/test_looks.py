"""Points 1, 3, 4 and 5: what looks tell, and looks by steps and by leaps."""

import unittest
from copy import deepcopy

from shelvesmeet.errors import BadLooks, BadShelf
from shelvesmeet.looks import answers, by_leaps, by_steps
from tests.given import NO_NUMBERS, no_shelves, small_shelves

GREAT = 10 ** 30


class Answers(unittest.TestCase):
    ONE = [1, 4, 6]
    OTHER = [0, 4, 9, 10]

    def test_less_same_more(self):
        self.assertEqual(answers([1], [2], [(0, 0)]), [-1])
        self.assertEqual(answers([2], [2], [(0, 0)]), [0])
        self.assertEqual(answers([3], [2], [(0, 0)]), [1])

    def test_every_look(self):
        looks = [(mine, theirs) for mine in range(3) for theirs in range(4)]
        told = [1, -1, -1, -1, 1, 0, -1, -1, 1, 1, -1, -1]
        self.assertEqual(answers(self.ONE, self.OTHER, looks), told)

    def test_in_the_turn_of_the_looks(self):
        self.assertEqual(answers(self.ONE, self.OTHER, [(2, 3), (1, 1), (0, 0)]), [-1, 0, 1])
        self.assertEqual(answers(self.ONE, self.OTHER, [(1, 1), (0, 0), (2, 3)]), [0, 1, -1])

    def test_the_same_look_twice(self):
        self.assertEqual(answers(self.ONE, self.OTHER, [(1, 1), (2, 3), (1, 1)]), [0, -1, 0])

    def test_no_looks(self):
        self.assertEqual(answers(self.ONE, self.OTHER, []), [])
        self.assertEqual(answers([], [], []), [])
        self.assertEqual(answers([], [1], []), [])

    def test_any_sign_and_size(self):
        one, other = [-GREAT, -1, GREAT], [-GREAT - 1, 0, GREAT]
        self.assertEqual(answers(one, other, [(0, 0), (1, 1), (2, 2), (0, 2)]), [1, -1, 0, -1])
        self.assertEqual(answers([10 ** 6000], [10 ** 6000 + 1], [(0, 0)]), [-1])

    def test_last_places_of_forty(self):
        one, other = list(range(40)), list(range(1, 41))
        self.assertEqual(answers(one, other, [(39, 38), (39, 39), (0, 39), (39, 0)]), [0, -1, -1, 1])

    def test_six_hundred_taken_one_more_refused(self):
        looks = [(1, 1), (0, 0)] * 300
        self.assertEqual(answers(self.ONE, self.OTHER, looks), [0, 1] * 300)
        with self.assertRaises(BadLooks):
            answers(self.ONE, self.OTHER, looks + [(1, 1)])

    def test_what_is_no_list(self):
        wrong = [None, True, 0, 3, "", "ab", (), ((0, 0),), {}, {(0, 0): 1}, set(), {(0, 0)}, iter([]), object()]
        for at, looks in enumerate(wrong):
            with self.subTest(at), self.assertRaises(BadLooks):
                answers(self.ONE, self.OTHER, looks)

    def wrong_looks(self):
        """What is no look at ONE and OTHER."""
        told = [
            None, 0, True, "00", b"00", [0, 0], [], {}, {0: 0}, {0, 1}, object(),
            (), (0,), (0, 0, 0), ((0, 0), 0), ([0], 0), ((0, 0), (0, 0)),
            (-1, 0), (0, -1), (3, 0), (0, 4), (3, 4), (2, 4), (GREAT, 0), (0, GREAT), (-GREAT, 0),
            (10 ** 5000, 0), (0, -(10 ** 5000)),
        ]
        for member in NO_NUMBERS:
            told.extend([(member, 0), (0, member), (member, member)])
        return told

    def test_what_is_no_look_at_any_turn(self):
        for at, wrong in enumerate(self.wrong_looks()):
            for looks in ([wrong], [wrong, (0, 0), (1, 1)], [(0, 0), wrong, (1, 1)], [(0, 0), (1, 1), wrong]):
                with self.subTest(at), self.assertRaises(BadLooks):
                    answers(self.ONE, self.OTHER, looks)

    def test_each_place_is_of_its_own_shelf(self):
        self.assertEqual(answers(self.ONE, self.OTHER, [(2, 3)]), [-1])
        with self.assertRaises(BadLooks):
            answers(self.ONE, self.OTHER, [(3, 2)])

    def test_empty_shelves_have_no_places(self):
        for one, other in (([], []), ([1], []), ([], [1])):
            for look in ((0, 0), (-1, 0), (0, -1), (-1, -1)):
                with self.subTest(one=one, other=other, look=look), self.assertRaises(BadLooks):
                    answers(one, other, [look])

    def test_shelves_are_refused_ahead_of_looks(self):
        for at, bad in enumerate(no_shelves()):
            for looks in ([], None, [(0, 0)], [[0, 0]]):
                for one, other in ((bad, [1]), ([1], bad), (bad, bad)):
                    with self.subTest(at=at, looks=looks), self.assertRaises(BadShelf):
                        answers(one, other, looks)


class BySteps(unittest.TestCase):
    def told(self, one, other, looks):
        self.assertEqual(by_steps(one, other), looks)

    def test_empty(self):
        self.told([], [], [])
        self.told([], [1, 2], [])
        self.told([1, 2], [], [])

    def test_one_number(self):
        self.told([1], [1], [(0, 0)])
        self.told([1], [2], [(0, 0)])
        self.told([2], [1], [(0, 0)])
        self.told([3], [1, 2, 3, 4], [(0, 0), (0, 1), (0, 2)])
        self.told([1, 2, 3, 4], [3], [(0, 0), (1, 0), (2, 0)])

    def test_equal(self):
        self.told([-4, 0, 7], [-4, 0, 7], [(0, 0), (1, 1), (2, 2)])

    def test_one_wholly_below(self):
        self.told([1, 2, 3], [7, 8], [(0, 0), (1, 0), (2, 0)])
        self.told([7, 8], [1, 2, 3], [(0, 0), (0, 1), (0, 2)])

    def test_by_turns(self):
        self.told([1, 3, 5], [2, 4, 6], [(0, 0), (1, 0), (1, 1), (2, 1), (2, 2)])
        self.told([2, 4, 6], [1, 3, 5], [(0, 0), (0, 1), (1, 1), (1, 2), (2, 2)])

    def test_some_meet(self):
        self.told([1, 4, 6, 9], [0, 4, 5, 9, 12], [(0, 0), (0, 1), (1, 1), (2, 2), (2, 3), (3, 3)])

    def test_any_sign_and_size(self):
        self.told([-GREAT, GREAT], [-GREAT, GREAT + 1], [(0, 0), (1, 1)])

    def test_twelve_numbers(self):
        evens, odds = list(range(0, 24, 2)), list(range(1, 24, 2))
        looks = []
        for at in range(12):
            looks.extend([(at, at), (at + 1, at)])
        self.told(evens, odds, looks[:-1])

    def test_more_numbers_are_taken(self):
        shelf = list(range(40))
        self.told(shelf, shelf, [(at, at) for at in range(40)])

    def test_the_finger_at_the_lesser_number_goes_on(self):
        for one in small_shelves(5):
            for other in small_shelves(5):
                looks = by_steps(one, other)
                if not one or not other:
                    self.assertEqual(looks, [])
                    continue
                self.assertEqual(looks[0], (0, 0))
                steps = {-1: (1, 0), 0: (1, 1), 1: (0, 1)}
                after = [
                    (mine + steps[told][0], theirs + steps[told][1])
                    for (mine, theirs), told in zip(looks, answers(one, other, looks))
                ]
                self.assertEqual(looks[1:], after[:-1])
                self.assertTrue(after[-1][0] == len(one) or after[-1][1] == len(other))


class ByLeaps(unittest.TestCase):
    def told(self, one, other, looks):
        self.assertEqual(by_leaps(one, other), looks)

    def test_empty(self):
        self.told([], [], [])
        self.told([], [1, 2], [])
        self.told([1, 2], [], [])

    def test_one_number(self):
        self.told([1], [1], [(0, 0)])
        self.told([1], [2], [(0, 0)])
        self.told([2], [1], [(0, 0)])

    def test_one_number_in_seven(self):
        other = [1, 2, 3, 4, 5, 6, 7]
        # 0, 1 and 3 are less, 7 is no place: low 4, high 7, then halfway 5 and 4.
        self.told([5], other, [(0, 0), (0, 1), (0, 3), (0, 5), (0, 4)])
        # low 4, high 7: halfway 5 is less, low 6, halfway 6 isn't less.
        self.told([7], other, [(0, 0), (0, 1), (0, 3), (0, 5), (0, 6)])
        # All are less: low 7 at the end.
        self.told([8], other, [(0, 0), (0, 1), (0, 3), (0, 5), (0, 6)])
        # 3 isn't less: low 2, high 3, halfway 2.
        self.told([3], other, [(0, 0), (0, 1), (0, 3), (0, 2)])
        self.told([4], other, [(0, 0), (0, 1), (0, 3), (0, 2)])
        # 1 isn't less: low 1, high 1.
        self.told([2], other, [(0, 0), (0, 1)])
        self.told([0], other, [(0, 0)])

    def test_equal(self):
        self.told([1, 2, 3], [1, 2, 3], [(0, 0), (1, 1), (2, 2)])

    def test_first_wholly_below(self):
        self.told([1, 2, 3], [7, 8], [(0, 0), (1, 0), (2, 0)])

    def test_second_wholly_below(self):
        # 0 and 1 are less, 3 is no place: low 2, high 3, halfway 2 is less; begin 3 for the next.
        self.told([7, 8], [1, 2, 3], [(0, 0), (0, 1), (0, 2)])
        self.told([5, 6], [1, 2], [(0, 0), (0, 1)])

    def test_begin_behind_the_number_if_it_stands_there(self):
        # 4 is found at 1, so 6 begins at 2: 5 is less, 3 isn't; low 3, high 3.
        self.told([4, 6, 9], [0, 4, 5, 9, 12], [(0, 0), (0, 1), (1, 2), (1, 3), (2, 3)])

    def test_begin_stays_if_it_does_not_stand_there(self):
        self.told([1, 2, 4], [3, 4], [(0, 0), (1, 0), (2, 0), (2, 1)])

    def test_leaps_from_a_begin_within(self):
        other = [0, 10, 20, 30, 40, 50, 60, 70, 80, 90, 100]
        # 10: 0 less, 1 stands there; begin 2.
        # 75: 2, 3, 5 less, 9 isn't; low 6, high 9: halfway 7 less, low 8; halfway 8 isn't; begin 8.
        # 100: 8, 9 less, 11 is no place; low 10, high 11: halfway 10 isn't less; begin 11.
        # 101: no place.
        looks = [(0, 0), (0, 1), (1, 2), (1, 3), (1, 5), (1, 9), (1, 7), (1, 8), (2, 8), (2, 9), (2, 10)]
        self.told([10, 75, 100, 101], other, looks)

    def test_thirty_six_numbers(self):
        other = list(range(0, 72, 2))
        self.assertEqual(len(other), 36)
        # 45: 0, 1, 3, 7, 15 less, 31 isn't; low 16, high 31: 23 isn't, 19, 21, 22 less; begin 23.
        # 46: 23 stands there; begin 24.
        # 70: 24, 25, 27, 31 less, 39 is no place; low 32, high 36: 34 less, 35 isn't; begin 36.
        # 71 and 80: no place.
        looks = [
            (0, 0), (0, 1), (0, 3), (0, 7), (0, 15), (0, 31), (0, 23), (0, 19), (0, 21), (0, 22),
            (1, 23),
            (2, 24), (2, 25), (2, 27), (2, 31), (2, 34), (2, 35),
        ]
        self.told([45, 46, 70, 71, 80], other, looks)

    def test_beyond_the_last_leap_within_thirty_six(self):
        # 0, 1, 3, 7, 15, 31 less, 63 is no place; low 32, high 36: 34 and 35 less.
        self.told([99], list(range(36)), [(0, at) for at in (0, 1, 3, 7, 15, 31, 34, 35)])

    def test_twelve_numbers_and_thirty_six(self):
        one, other = list(range(0, 36, 3)), list(range(36))
        # Each 3 more is looked for from one behind the last: 3k + 1, 3k + 2 are less, 3k + 4 isn't,
        # low 3k + 3, high 3k + 4, halfway 3k + 3.
        looks = [(0, 0)]
        for at in range(1, 12):
            begin = 3 * at - 2
            looks.extend([(at, begin), (at, begin + 1), (at, begin + 3), (at, begin + 2)])
        self.told(one, other, looks)

    def test_any_sign_and_size(self):
        other = [-GREAT, -1, GREAT]
        self.told([-GREAT, GREAT], other, [(0, 0), (1, 1), (1, 2)])

    def test_more_numbers_are_taken(self):
        shelf = list(range(40))
        self.told(shelf, shelf, [(at, at) for at in range(40)])

    def by_words(self, one, other):
        """The looks put together from point 5 in another way than the program does."""
        looks, begin = [], 0
        for at, number in enumerate(one):
            less = [told == 1 for told in answers([number], other, [(0, place) for place in range(len(other))])]
            leaps = [begin + 2 ** times - 1 for times in range(7) if begin + 2 ** times - 1 < len(other)]
            stops = [place for place in leaps if not less[place]][:1]
            seen = [place for place in leaps if not stops or place <= stops[0]]
            low = max([begin] + [place + 1 for place in seen if less[place]])
            window = list(range(low, stops[0] if stops else len(other)))
            while window:
                middle = window[(window[0] + window[-1] + 1) // 2 - window[0]]
                seen.append(middle)
                window = [place for place in window if (place > middle if less[middle] else place < middle)]
            looks.extend((at, place) for place in seen)
            begin = max(begin, sum(less)) + other.count(number)
        return looks

    def test_all_small_shelves(self):
        for one in small_shelves(6):
            for other in small_shelves(6):
                self.told(one, other, self.by_words(one, other))

    def test_wide_shelves(self):
        for size in (1, 2, 3, 15, 16, 17, 31, 32, 33, 36):
            other = [place * 3 for place in range(size)]
            for first in range(-1, 3 * size + 1, 5):
                for step in (1, 2, 3, 7, 19):
                    one = [first + step * at for at in range(12)]
                    self.told(one, other, self.by_words(one, other))


class Refused(unittest.TestCase):
    def test_what_is_no_shelf(self):
        for at, bad in enumerate(no_shelves()):
            for ask in (by_steps, by_leaps):
                for one, other in ((bad, [1]), ([1], bad), (bad, bad), ([], bad), (bad, [])):
                    with self.subTest(ask=ask.__name__, at=at), self.assertRaises(BadShelf):
                        ask(one, other)


class NothingKept(unittest.TestCase):
    def asked(self):
        """Each function with what it is handed, new at each call."""
        return [
            (answers, [[1, 2], [2, 3], [(0, 1), (1, 0)]]),
            (by_steps, [[1, 2], [2, 3]]),
            (by_leaps, [[1, 2], [2, 3]]),
        ]

    def test_kinds(self):
        for ask, handed in self.asked():
            self.assertIs(type(ask(*handed)), list)
        for ask in (by_steps, by_leaps):
            self.assertTrue(all(type(look) is tuple and len(look) == 2 for look in ask([1, 2], [2, 3])))
        for told in answers([1, 2, 3], [2], [(0, 0), (1, 0), (2, 0)]):
            self.assertIs(type(told), int)

    def test_handed_in_stays_as_it_was(self):
        for ask, handed in self.asked():
            ahead = deepcopy(handed)
            ask(*handed)
            self.assertEqual(handed, ahead)

    def test_told_is_new_also_if_changed_between(self):
        for ask, handed in self.asked():
            first = ask(*handed)
            whole = list(first)
            first.append("more")
            first[0] = "other"
            second = ask(*handed)
            self.assertEqual(second, whole)
            for part in [first, *handed]:
                self.assertIsNot(second, part)

    def test_told_does_not_follow_later_changes(self):
        for ask, handed in self.asked():
            told = ask(*handed)
            whole = list(told)
            for part in handed:
                part.clear()
            self.assertEqual(told, whole)
            self.assertEqual(ask(*handed), [])


if __name__ == "__main__":
    unittest.main()
