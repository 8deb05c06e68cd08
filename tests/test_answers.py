"""Points 1, 6, 9 and 12: the answers, their fields, and whether they show, made by hand, too."""

import unittest
from copy import deepcopy
from itertools import product

from shelvesmeet import answers
from shelvesmeet.answers import Answer, Broken, Open, Read, Settled, Shown, Unsettled
from shelvesmeet.best import judged_to
from shelvesmeet.looks import by_leaps, by_steps
from shelvesmeet.shown import judged
from shelvesmeet.squeezed import bits
from tests.apart import all_lists, all_two, every_look, is_open, is_unsettled, seen_or_may_be, some_of
from tests.given import GREAT, NO_NUMBERS, TWO, small_shelves

CLASSES = {
    "Shown": [], "Open": ["mine", "theirs"], "Read": ["shelf"], "Broken": ["place"],
    "Settled": ["things"], "Unsettled": ["worths"],
}
ASKED = {
    "Shown": ["one", "other", "looks"], "Open": ["one", "other", "looks"], "Read": ["text"], "Broken": ["text"],
    "Settled": ["lists", "many", "depth"], "Unsettled": ["lists", "many", "depth"],
}


class Classes(unittest.TestCase):
    def test_each_is_straight_under_answer(self):
        self.assertEqual(Answer.__bases__, (object,))
        for name in CLASSES:
            self.assertEqual(getattr(answers, name).__bases__, (Answer,))

    def test_each_has_its_own_shows(self):
        for name, asked in ASKED.items():
            method = vars(getattr(answers, name))["shows"]
            self.assertEqual(method.__code__.co_varnames[1:method.__code__.co_argcount], tuple(asked))

    def test_fields_are_set_at_creation(self):
        handed = {"mine": [1, 2], "theirs": [3], "shelf": [0, 4], "place": 7, "things": [1, 0], "worths": [[1], [2]]}
        for name, fields in CLASSES.items():
            told = getattr(answers, name)(*[handed[field] for field in fields])
            self.assertEqual(vars(told), {field: handed[field] for field in fields})
            told = getattr(answers, name)(**{field: handed[field] for field in fields})
            self.assertEqual(vars(told), {field: handed[field] for field in fields})


def lists_of(value):
    """The value and the members of it that are lists."""
    if not isinstance(value, list):
        return []
    return [value] + [member for member in value if isinstance(member, list)]


class Copied(unittest.TestCase):
    def test_lists_are_copied(self):
        mine, theirs, shelf, things = [1], [2], [3], [0]
        told = [Open(mine, theirs), Read(shelf), Settled(things)]
        for handed in (mine, theirs, shelf, things):
            handed.append(99)
        self.assertEqual((told[0].mine, told[0].theirs, told[1].shelf, told[2].things), ([1], [2], [3], [0]))

    def test_the_same_list_twice(self):
        shelf = [1]
        told = Open(shelf, shelf)
        told.mine.append(5)
        self.assertEqual((told.theirs, shelf), ([1], [1]))

    def test_lists_within_are_copied(self):
        row = [1, 2]
        worths = [row, row, [3, 4]]
        told = Unsettled(worths)
        row[0] = 77
        worths.pop()
        self.assertEqual(told.worths, [[1, 2], [1, 2], [3, 4]])
        told.worths[0].append(5)
        self.assertEqual(told.worths[1], [1, 2])
        self.assertEqual(row, [77, 2])

    def test_every_field_of_every_answer(self):
        # A field may be handed a kind of value that its answer never shows by, as a place that is a list.
        for name, fields in CLASSES.items():
            for field in fields:
                for handed in (7, -GREAT, [], [3, 4], [[1], [2]], [[], [1, 2]], [5, [1]]):
                    with self.subTest(answer=name, field=field, handed=handed):
                        self.check_copied(name, fields, field, handed)

    def check_copied(self, name, fields, field, handed):
        ahead = deepcopy(handed)
        told = getattr(answers, name)(**{each: handed if each == field else [0] for each in fields})
        kept = getattr(told, field)
        self.assertEqual(kept, ahead)
        for changed in lists_of(handed):
            changed.append(99)
        self.assertEqual(getattr(told, field), ahead)
        changed_ahead = deepcopy(handed)
        for changed in lists_of(kept):
            changed.append(77)
        self.assertEqual(handed, changed_ahead)

    def test_each_answer_has_its_own(self):
        shelf = [1, 2]
        first, second = Read(shelf), Read(shelf)
        first.shelf.clear()
        self.assertEqual(second.shelf, [1, 2])


class ShownByHand(unittest.TestCase):
    def test_steps_and_leaps_show(self):
        for one in small_shelves(5):
            for other in small_shelves(5):
                self.assertIs(Shown().shows(one, other, by_steps(one, other)), True)
                self.assertIs(Shown().shows(one, other, by_leaps(one, other)), True)
                self.assertIs(Shown().shows(one, other, []), one == [] or other == [])

    def test_asked_of_others(self):
        told = judged([1], [1], [(0, 0)])
        self.assertIs(told.shows([1, 3], [2], [(0, 0), (1, 0)]), True)
        self.assertIs(told.shows([1, 3], [2], [(0, 0)]), False)
        self.assertIs(told.shows([], [GREAT], []), True)
        self.assertIs(told.shows([-GREAT], [10 ** 5000], []), False)

    def test_looks_twice_and_six_hundred(self):
        one, other = list(range(40)), list(range(40))
        looks = [(at, at) for at in range(40)][::-1] * 15
        self.assertEqual(len(looks), 600)
        self.assertIs(Shown().shows(one, other, looks), True)
        self.assertIs(Shown().shows(one, other, [look for look in looks if look != (20, 20)]), False)


class OpenByHand(unittest.TestCase):
    def shows(self, mine, theirs, wanted, one=(1, 4), other=(2, 4), looks=((0, 0), (1, 1))):
        told = Open(mine, theirs).shows(list(one), list(other), list(looks))
        self.assertIs(told, wanted)

    def test_the_same_shelves_do_not(self):
        self.shows([1, 4], [2, 4], False)
        self.shows([1, 4], [2, 4], False, looks=())
        self.shows([1, 2], [3], False, one=(1, 2), other=(3,), looks=())

    def test_the_same_places_by_other_numbers_do_not(self):
        self.shows([10, 40], [20, 40], False)
        self.shows([-7, GREAT], [0, GREAT], False, looks=())

    def test_another_answer_does_not(self):
        self.shows([2, 4], [2, 4], False)
        self.shows([2, 4], [2, 4], True, looks=((1, 1),))
        self.shows([1, 4], [2, 5], False)
        self.shows([1, 4], [2, 5], True, looks=((0, 0),))

    def test_other_places_with_the_same_count(self):
        # They met at (1, 1), and now meet at (1, 0) alone.
        self.shows([1, 2], [2, 4], True, looks=((0, 0), (0, 1)))
        self.shows([1, 2], [2, 4], False, looks=((0, 0), (1, 1)))

    def test_another_length_does_not(self):
        for mine, theirs in (([1], [2, 4]), ([1, 4, 6], [2, 4]), ([1, 4], [2]), ([1, 4], [2, 4, 9]), ([], []),
                             ([], [2, 4]), ([2, 4], []), (list(range(500)), list(range(500)))):
            self.shows(mine, theirs, False, looks=())

    def test_lengths_in_the_other_turn_do_not(self):
        self.shows([1, 3], [3], False, one=(5,), other=(4, 6), looks=())
        self.shows([4], [4, 6], True, one=(5,), other=(4, 6), looks=())

    def test_what_does_not_rise_does_not(self):
        for mine, theirs in (([2, 1], [2, 4]), ([3, 3], [2, 4]), ([1, 3], [4, 2]), ([1, 3], [2, 2]), ([3, 3], [3, 3])):
            self.shows(mine, theirs, False, looks=())

    def test_any_size_and_sign(self):
        self.shows([-10 ** 5000, -GREAT], [-GREAT - 1, 10 ** 5000], True, looks=((0, 0),))
        self.shows([-10 ** 5000, -GREAT], [-GREAT, 10 ** 5000], True, looks=((0, 0),))
        self.shows([-10 ** 5000, 10 ** 5000], [-GREAT, 10 ** 5000], False)

    def test_true_and_false_are_no_numbers(self):
        self.shows([0, 1], [1, 2], True, looks=((0, 0),))
        self.shows([False, True], [1, 2], False, looks=((0, 0),))
        self.shows([0, 1], [True, 2], False, looks=((0, 0),))

    def test_forty_numbers(self):
        one, other = list(range(40)), list(range(40))
        looks = [look for look in every_look(one, other) if look != (39, 39)][-600:]
        self.shows(one, list(range(39)) + [40], True, one, other, looks)
        self.shows(one, list(range(39)) + [40], False, one, other, looks[1:] + [(39, 39)])
        self.shows(one, list(range(1, 41)), False, one, other, looks)

    def test_empty_shelves_leave_nothing_open(self):
        for mine, theirs in (([], []), ([1], []), ([], [1]), ([1], [1])):
            self.shows(mine, theirs, False, one=(), other=(), looks=())
        self.shows([5], [], False, one=(1,), other=(), looks=())

    def test_all_small_ones(self):
        pairs = all_two(2, 2)
        for (one, other), (mine, theirs) in product(pairs, repeat=2):
            for looks in some_of(every_look(one, other)):
                self.shows(mine, theirs, is_open(mine, theirs, one, other, looks), one, other, looks)

    def test_by_the_fields_as_they_stand(self):
        told = judged([1], [2], [])
        self.assertIs(told.shows([1], [2], []), True)
        told.mine, told.theirs = [1], [3]
        self.assertIs(told.shows([1], [2], []), False)
        told.theirs[0] = 1
        self.assertIs(told.shows([1], [2], []), True)
        told.mine.append(4)
        self.assertIs(told.shows([1], [2], []), False)
        self.assertIs(told.shows([1, 3], [2], [(1, 0)]), True)


class ReadByHand(unittest.TestCase):
    def test_shows_its_own_bits_alone(self):
        shelves = small_shelves(5)
        for shelf in shelves:
            for other in shelves:
                self.assertIs(Read(shelf).shows(bits(other)), shelf == other)

    def test_no_sign(self):
        self.assertIs(Read([]).shows(""), True)
        self.assertIs(Read([]).shows("1"), False)
        self.assertIs(Read([0]).shows(""), False)

    def test_a_broken_text(self):
        self.assertIs(Read([0]).shows("10"), False)
        self.assertIs(Read([]).shows("0"), False)
        self.assertIs(Read([0, 1]).shows("101"), False)

    def test_what_is_no_shelf_from_zero_on(self):
        for shelf in ([-1], [0, 0], [1, 0], [-1, 0], [0, -1], [-GREAT], [5, 5, 5], [-2, -1]):
            for text in ("", "1", "0", "11", "010", "1" * 400):
                self.assertIs(Read(shelf).shows(text), False)

    def test_any_length_and_size(self):
        self.assertIs(Read(list(range(400))).shows("1" * 400), True)
        self.assertIs(Read(list(range(401))).shows("1" * 400), False)
        self.assertIs(Read(list(range(5000))).shows("1" * 400), False)
        self.assertIs(Read([2 ** 199 - 1]).shows("0" * 199 + "1" + "0" * 199), True)
        self.assertIs(Read([2 ** 199]).shows("0" * 199 + "1" + "0" * 199), False)
        self.assertIs(Read([10 ** 5000]).shows("0" * 400), False)

    def test_true_and_false_are_no_numbers(self):
        self.assertIs(Read([0]).shows("1"), True)
        self.assertIs(Read([False]).shows("1"), False)
        self.assertIs(Read([1]).shows("010"), True)
        self.assertIs(Read([True]).shows("010"), False)

    def test_by_the_fields_as_they_stand(self):
        told = Read([0, 2])
        told.shelf.append(5)
        self.assertIs(told.shows("1010"), False)
        self.assertIs(told.shows("1010011"), True)
        told.shelf = []
        self.assertIs(told.shows(""), True)


class BrokenByHand(unittest.TestCase):
    def test_the_place_and_no_other(self):
        for place in (-GREAT, -3, -1, 0, 1, 2, 3, 4, GREAT, 10 ** 5000):
            self.assertIs(Broken(place).shows("10100"), place == 4)
            self.assertIs(Broken(place).shows("0001"), place == 0)
            self.assertIs(Broken(place).shows("1011"), False)
            self.assertIs(Broken(place).shows(""), False)

    def test_a_place_within_a_gap_that_does_not_end(self):
        self.assertIs(Broken(0).shows("0000"), True)
        self.assertIs(Broken(1).shows("0000"), False)
        self.assertIs(Broken(399).shows("1" * 399 + "0"), True)
        self.assertIs(Broken(400).shows("1" * 400), False)

    def test_true_and_false_are_no_numbers(self):
        self.assertIs(Broken(False).shows("0"), False)
        self.assertIs(Broken(True).shows("10"), False)

    def test_a_list_is_no_place(self):
        for place in ([], [0], [1], [[0]], [[0], [1]], [0, [1]]):
            for text in ("", "0", "1", "10", "0000"):
                self.assertIs(Broken(place).shows(text), False)

    def test_by_the_field_as_it_stands(self):
        told = Broken(0)
        told.place = 1
        self.assertIs(told.shows("10"), True)
        self.assertIs(told.shows("0"), False)


class SettledByHand(unittest.TestCase):
    def test_the_best_in_this_turn_alone(self):
        for things in ([], [1], [0], [1, 0], [0, 1], [1, 0, 2], [1, 1], [1, -3], [GREAT], list(range(300))):
            self.assertIs(Settled(things).shows(TWO, 1, 3), things == [1])
            self.assertIs(Settled(things).shows(TWO, 1, 2), False)
            self.assertIs(Settled(things).shows(TWO, 2, 4), things == [1, 0])
            self.assertIs(Settled(things).shows(TWO, 2, 3), False)
            self.assertIs(Settled(things).shows(TWO, 0, 0), things == [])

    def test_so_many_as_are_asked(self):
        self.assertIs(Settled([1, 0, 2, 3]).shows(TWO, 4, 4), True)
        self.assertIs(Settled([1, 0, 2]).shows(TWO, 4, 4), False)
        self.assertIs(Settled([1, 0, 2, 3]).shows(TWO, 3, 4), False)
        self.assertIs(Settled([1, 0, 2, 3, 4]).shows(TWO, 4, 4), False)

    def test_true_and_false_are_no_numbers(self):
        self.assertIs(Settled([True]).shows(TWO, 1, 3), False)
        self.assertIs(Settled([0]).shows([[(0, 5)]], 1, 0), True)
        self.assertIs(Settled([False]).shows([[(0, 5)]], 1, 0), False)

    def test_by_the_field_as_it_stands(self):
        told = Settled([1])
        told.things.append(0)
        self.assertIs(told.shows(TWO, 1, 3), False)
        self.assertIs(told.shows(TWO, 2, 4), True)
        told.things = []
        self.assertIs(told.shows(TWO, 0, 2), True)


class UnsettledByHand(unittest.TestCase):
    # To depth 2 of each list, 1 has 16 and 2 may have 17: 8 on the first, 9 on the second.
    ROWS = [[8, 10, 8, 0], [0, 6, 9, 0]]

    def shows(self, worths, wanted, lists=None, many=1, depth=2):
        lists = lists or TWO
        self.assertIs(Unsettled(worths).shows(lists, many, depth), wanted)

    def changed(self, at, thing, worth):
        worths = deepcopy(self.ROWS)
        worths[at][thing] = worth
        return worths

    def test_worths_by_which_another_is_best(self):
        self.shows(self.ROWS, True)
        self.shows(self.ROWS, False, many=0)
        self.shows(self.ROWS, True, many=4)

    def test_worths_by_which_the_same_are_best(self):
        # 1 and 2 are alike, so 1 is first.
        self.shows(self.changed(0, 2, 7), False)
        self.shows(self.changed(0, 2, 7), True, many=2)
        self.shows([[8, 10, 0, 4], [1, 6, 9, 0]], False)
        for many in range(5):
            self.shows([[8, 10, 0, 4], [1, 6, 9, 0]], False, many=many)

    def test_in_another_turn_is_enough(self):
        lists = [[(0, 9), (1, 5), (2, 0)]]
        self.shows([[9, 9, 0]], False, lists, 2, 1)
        self.shows([[9, 0, 9]], True, lists, 2, 1)
        lists = [[(1, 9), (0, 5), (2, 0)]]
        self.shows([[9, 9, 0]], True, lists, 2, 1)
        self.shows([[8, 9, 0]], False, lists, 2, 1)

    def test_what_is_seen_must_stay(self):
        for at, thing in ((0, 1), (0, 0), (1, 2), (1, 1)):
            for more in (-1, 1):
                self.shows(self.changed(at, thing, self.ROWS[at][thing] + more), False)

    def test_what_is_unseen_is_from_nought_to_the_last_one_seen(self):
        self.shows(self.changed(0, 3, 8), True)
        self.shows(self.changed(0, 3, 9), False)
        self.shows(self.changed(1, 3, 6), True)
        self.shows(self.changed(1, 3, 7), False)
        self.shows(self.changed(0, 2, 9), False)
        for at in (0, 1):
            self.shows(self.changed(at, 3, -1), False)
            self.shows(self.changed(at, 3, GREAT), False)
            self.shows(self.changed(at, 3, -GREAT), False)

    def test_to_a_thousand_where_nothing_is_seen(self):
        lists = [[(0, 5), (1, 0)]]
        self.shows([[0, 1000]], True, lists, 1, 0)
        self.shows([[0, 1001]], False, lists, 1, 0)
        self.shows([[999, 1000]], True, lists, 1, 0)
        self.shows([[1000, 1000]], False, lists, 1, 0)
        self.shows([[-1, 0]], False, lists, 1, 0)

    def test_all_seen(self):
        for worths in ([[5, 0]], [[0, 5]], [[0, 0]]):
            self.shows(worths, False, [[(0, 5), (1, 0)]], 1, 2)

    def test_another_shape(self):
        rows = self.ROWS
        for worths in ([], [[]], [[], []], rows[:1], rows + rows[:1], [rows[0], rows[1][:3]], [rows[0][:3], rows[1]],
                       [rows[0] + [0], rows[1]], [rows[0], rows[1] + [0]], rows[::-1], [rows[0] * 99, rows[1] * 99],
                       rows * 50):
            self.shows(worths, False)

    def test_true_and_false_are_no_numbers(self):
        self.shows(self.changed(0, 3, 1), True)
        self.shows(self.changed(1, 3, 0), True)
        for member in NO_NUMBERS:
            self.shows(self.changed(0, 3, member), False)
            self.shows(self.changed(1, 3, member), False)

    def test_asked_of_others(self):
        told = judged_to([[(1, 3), (0, 3)]], 1, 1)
        self.assertIs(told.shows([[(1, 3), (0, 3)]], 1, 1), True)
        self.assertIs(told.shows([[(1, 3), (0, 3)]], 1, 2), False)
        self.assertIs(told.shows([[(1, 3), (0, 3)]], 0, 1), False)
        self.assertIs(told.shows(TWO, 1, 1), False)

    def test_all_small_ones(self):
        for rows in all_lists(2, 2):
            for many, depth in product(range(3), range(3)):
                tried = [[-1, 0, 1, 2, 3, 1000, 1001]] * 2 + seen_or_may_be([rows], depth)[0]
                for worths in list(product(*tried[:2])) + list(product(*tried[2:])):
                    wanted = is_unsettled([worths], [rows], many, depth)
                    self.shows([list(worths)], wanted, [rows], many, depth)

    def test_by_the_field_as_it_stands(self):
        told = Unsettled(self.ROWS)
        told.worths[0][2] = 7
        self.assertIs(told.shows(TWO, 1, 2), False)
        told.worths[0][2] = 8
        self.assertIs(told.shows(TWO, 1, 2), True)
        told.worths.pop()
        self.assertIs(told.shows(TWO, 1, 2), False)


class AskingChangesNothing(unittest.TestCase):
    def test_fields_and_what_is_handed_in(self):
        asked = [
            (Shown(), [[1, 3], [2], [(1, 0), (0, 0)]]),
            (Open([1, 2], [2]), [[1, 3], [2], [(0, 0)]]),
            (Read([0, 2]), ["1010"]),
            (Broken(1), ["10"]),
            (Settled([1]), [TWO, 1, 3]),
            (Unsettled(UnsettledByHand.ROWS), [TWO, 1, 2]),
        ]
        for told, handed in asked:
            fields, ahead = deepcopy(vars(told)), deepcopy(handed)
            for _ in range(2):
                self.assertIs(told.shows(*handed), True)
                self.assertEqual(vars(told), fields)
                self.assertEqual(handed, ahead)


if __name__ == "__main__":
    unittest.main()
