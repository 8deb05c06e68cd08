"""Points 1, 8, 9 and 10: shelves squeezed into bits and read back, and halved by last figures."""

import unittest
from itertools import product

from shelvesmeet.answers import Broken, Read
from shelvesmeet.errors import BadBits, BadCount, BadPlace, BadShelf
from shelvesmeet.squeezed import at_place, best_low, bits, halves, read, room
from tests.given import GREAT, no_numbers_within, no_shelves_from_zero, no_texts, small_shelves

MIXED = [0, 1, 5, 13, 14, 63, 64, 900, 901]


def gap_words(longest):
    """For each gap whose bits have at most so many signs, its bits, put down apart from the program."""
    words, figures = {}, 1
    while 2 * figures - 1 <= longest:
        for tail in product("01", repeat=figures - 1):
            word = "0" * (figures - 1) + "1" + "".join(tail)
            words[word] = int("1" + "".join(tail), 2)
        figures += 1
    return words


def all_read(longest):
    """For each text of at most so many signs that is the bits of a shelf, the shelf."""
    words, told, latest = gap_words(longest), {"": []}, {"": []}
    while latest:
        following = {}
        for text, shelf in latest.items():
            for word, gap in words.items():
                if len(text + word) <= longest:
                    following[text + word] = shelf + [(shelf[-1] if shelf else -1) + gap]
        told.update(following)
        latest = following
    return told


class Bits(unittest.TestCase):
    def test_empty(self):
        self.assertEqual(bits([]), "")

    def test_one_number(self):
        for number, text in (
            (0, "1"), (1, "010"), (2, "011"), (3, "00100"), (4, "00101"), (6, "00111"), (7, "0001000"),
            (62, "00000" + "111111"), (63, "000000" + "1000000"),
        ):
            self.assertEqual(bits([number]), text)

    def test_gaps_from_the_number_ahead(self):
        self.assertEqual(bits([0, 1, 2]), "111")
        self.assertEqual(bits([0, 2, 5]), "1" + "010" + "011")
        self.assertEqual(bits([3, 4, 8]), "00100" + "1" + "00100")

    def test_nine_numbers(self):
        text = "1" + "1" + "00100" + "0001000" + "1" + "00000110001" + "1" + "0" * 9 + "1101000100" + "1"
        self.assertEqual(bits(MIXED), text)

    def test_great_numbers(self):
        self.assertEqual(bits([2 ** 100 - 1]), "0" * 100 + "1" + "0" * 100)
        self.assertEqual(bits([2 ** 20000 - 1, 2 ** 20000]), "0" * 20000 + "1" + "0" * 20000 + "1")

    def test_more_numbers_are_taken(self):
        self.assertEqual(bits(list(range(10))), "1" * 10)
        self.assertEqual(bits(list(range(1, 81, 2))), "010" * 40)

    def test_each_shelf_has_its_own(self):
        shelves = small_shelves(9)
        self.assertEqual(len({bits(shelf) for shelf in shelves}), len(shelves))

    def test_kind(self):
        self.assertIs(type(bits([])), str)
        self.assertIs(type(bits([4])), str)


class ReadBack(unittest.TestCase):
    def reads(self, text, shelf):
        told = read(text)
        self.assertIs(type(told), Read)
        self.assertIs(type(told.shelf), list)
        self.assertEqual(told.shelf, shelf)
        self.assertIs(told.shows(text), True)
        for place in range(-1, len(text) + 2):
            self.assertIs(Broken(place).shows(text), False)

    def breaks(self, text, place):
        told = read(text)
        self.assertIs(type(told), Broken)
        self.assertIs(type(told.place), int)
        self.assertEqual(told.place, place)
        for there in range(-1, len(text) + 2):
            self.assertIs(Broken(there).shows(text), there == place)

    def test_no_sign(self):
        self.reads("", [])

    def test_ordinary(self):
        self.reads("1", [0])
        self.reads("010", [1])
        self.reads("1010011", [0, 2, 5])

    def test_a_gap_without_a_one(self):
        self.breaks("0", 0)
        self.breaks("000", 0)
        self.breaks("10", 1)
        self.breaks("01000", 3)

    def test_a_gap_with_too_few_figures(self):
        self.breaks("01", 0)
        self.breaks("0010", 0)
        self.breaks("101", 1)
        self.breaks("110010", 2)
        self.breaks("010" + "00111" + "00011", 8)

    def test_four_hundred_signs(self):
        self.reads("1" * 400, list(range(400)))
        self.reads("1" + "0" * 199 + "1" + "1" * 199, [0, 2 ** 200 - 1])
        self.reads("010" * 133 + "1", list(range(1, 267, 2)) + [266])
        self.breaks("0" * 400, 0)
        self.breaks("0" * 200 + "1" * 200, 0)
        self.breaks("1" * 399 + "0", 399)
        self.breaks("010" * 133 + "0", 399)
        self.breaks("1" * 201 + "0" * 100 + "1" * 99, 201)

    def test_the_bits_of_a_shelf(self):
        for shelf in small_shelves(9) + [MIXED, list(range(40)), [GREAT], [5, 2 ** 150]]:
            self.reads(bits(shelf), shelf)

    def test_all_short_texts(self):
        longest = 10
        shelves, words = all_read(longest), gap_words(longest)
        for size in range(longest + 1):
            for signs in product("01", repeat=size):
                text = "".join(signs)
                if text in shelves:
                    self.reads(text, shelves[text])
                    continue
                places = [
                    place for place in range(size)
                    if text[:place] in shelves and not any(text[place:].startswith(word) for word in words)
                ]
                self.assertEqual(len(places), 1)
                self.breaks(text, places[0])

    def test_what_is_no_text(self):
        for at, text in enumerate(no_texts()):
            with self.subTest(at), self.assertRaises(BadBits):
                read(text)


class Halves(unittest.TestCase):
    def test_empty(self):
        for low in range(21):
            self.assertEqual(halves([], low), ([], ""))

    def test_no_last_figures(self):
        self.assertEqual(halves([0, 2, 3], 0), ([0, 0, 0], "1" + "001" + "01"))

    def test_some_last_figures(self):
        # In twos: 0, 1, 101, 1101, 1110, 111111, 1000000.
        shelf = [0, 1, 5, 13, 14, 63, 64]
        self.assertEqual(halves(shelf, 1), ([0, 1, 1, 1, 0, 1, 0], "11001" + "00001" + "01" + "0" * 24 + "101"))
        self.assertEqual(halves(shelf, 2), ([0, 1, 1, 1, 2, 3, 0], "1101001" + "1" + "0" * 12 + "101"))
        self.assertEqual(halves(shelf, 3), ([0, 1, 5, 5, 6, 7, 0], "1110110000001" + "01"))
        self.assertEqual(halves(shelf, 7), ([0, 1, 5, 13, 14, 63, 64], "1111111"))

    def test_the_first_number_from_zero(self):
        self.assertEqual(halves([12], 2), ([0], "0001"))
        self.assertEqual(halves([13, 14], 2), ([1, 2], "00011"))

    def test_twenty_last_figures(self):
        self.assertEqual(halves([5, 2 ** 20 - 1, 2 ** 20], 20), ([5, 2 ** 20 - 1, 0], "1101"))
        great = 400 * 2 ** 20 + 2 ** 20 - 1
        self.assertEqual(halves([great], 20), ([2 ** 20 - 1], "0" * 400 + "1"))
        with self.assertRaises(BadCount):
            halves([great + 1], 20)

    def test_four_hundred_above_is_taken_more_is_refused(self):
        for low in range(21):
            most = 401 * 2 ** low - 1
            self.assertEqual(halves([most], low), ([2 ** low - 1], "0" * 400 + "1"))
            self.assertEqual(halves([0, most], low)[1], "1" + "0" * 400 + "1")
            for shelf in ([most + 1], [0, most + 1], [most, most + 1], [GREAT], [10 ** 5000]):
                with self.subTest(low=low), self.assertRaises(BadCount):
                    halves(shelf, low)

    def test_all_small_shelves(self):
        for shelf in small_shelves(8) + [MIXED[:7]]:
            for low in range(21):
                lasts, signs = halves(shelf, low)
                self.assertEqual(lasts, [number % 2 ** low for number in shelf])
                runs = signs.split("1")
                self.assertEqual(runs.pop(), "")
                self.assertEqual([sum(map(len, runs[:at + 1])) for at in range(len(runs))],
                                 [number // 2 ** low for number in shelf])
                self.assertEqual(signs.count("1") + signs.count("0"), len(signs))

    def test_more_numbers_are_taken(self):
        self.assertEqual(halves(list(range(40)), 3), (list(range(8)) * 5, "0".join(["1" * 8] * 5)))

    def test_kinds(self):
        for shelf in ([], [5, 9]):
            told = halves(shelf, 2)
            self.assertIs(type(told), tuple)
            self.assertEqual([type(part) for part in told], [list, str])


class AtPlace(unittest.TestCase):
    def test_each_place(self):
        for shelf in small_shelves(7) + [MIXED[:7], list(range(0, 400, 10))]:
            for low in (0, 1, 2, 3, 7, 20):
                told = [at_place(shelf, low, place) for place in range(len(shelf))]
                self.assertEqual(told, shelf)

    def test_great_numbers(self):
        shelf = [7, 2 ** 28, 400 * 2 ** 20 + 5]
        self.assertEqual([at_place(shelf, 20, place) for place in range(3)], shelf)

    def test_no_such_place(self):
        for at, place in enumerate(no_numbers_within(0, 2)):
            with self.subTest(at), self.assertRaises(BadPlace):
                at_place([4, 5, 6], 2, place)
        for at, place in enumerate([0, *no_numbers_within(0, 0)]):
            with self.subTest(at), self.assertRaises(BadPlace):
                at_place([], 2, place)

    def test_too_few_ahead_of_the_place(self):
        for place in (0, 1, -1, None, True):
            with self.subTest(place), self.assertRaises(BadCount):
                at_place([401], 0, place)
        self.assertEqual(at_place([400], 0, 0), 400)
        self.assertEqual(at_place([401], 1, 0), 401)

    def test_count_ahead_of_the_place(self):
        for at, low in enumerate(no_numbers_within(0, 20)):
            for place in (0, 1, -1, None):
                with self.subTest(at=at, place=place), self.assertRaises(BadCount):
                    at_place([5], low, place)

    def test_shelf_ahead_of_all(self):
        for at, shelf in enumerate(no_shelves_from_zero()):
            for low, place in ((2, 0), (None, 0), (21, None), (2, -1)):
                with self.subTest(at=at, low=low, place=place), self.assertRaises(BadShelf):
                    at_place(shelf, low, place)


class Room(unittest.TestCase):
    def test_empty(self):
        for low in range(21):
            self.assertEqual(room([], low), 0)

    def test_figures_and_signs(self):
        # Above 2 figures 0, 0, 1, 3: three noughts, four ones, and two figures for each of four.
        self.assertEqual(room([0, 1, 5, 13], 2), 3 + 4 + 8)
        self.assertEqual(room([0, 1, 5, 13], 0), 13 + 4)
        self.assertEqual(room([0, 1, 5, 13], 20), 4 + 80)

    def test_as_the_halves_have(self):
        for shelf in small_shelves(8) + [MIXED[:7], [400], list(range(40))]:
            for low in range(21):
                lasts, signs = halves(shelf, low)
                self.assertEqual(room(shelf, low), low * len(lasts) + len(signs))

    def test_also_where_there_are_too_few(self):
        self.assertEqual(room([401], 0), 402)
        self.assertEqual(room(MIXED, 0), 901 + 9)
        self.assertEqual(room(MIXED, 1), 450 + 9 + 9)
        self.assertEqual(room([3, 10 ** 5000], 0), 10 ** 5000 + 2)
        self.assertEqual(room([3, 2 ** 5000], 20), 2 ** 4980 + 42)


class BestLow(unittest.TestCase):
    def test_empty_and_nought(self):
        self.assertEqual(best_low([]), 0)
        self.assertEqual(best_low([0]), 0)

    def test_the_least_of_several(self):
        # Rooms of [2]: 3, 3, 3, 4; of [4]: 5, 4, 4, 4, 5.
        self.assertEqual([room([2], low) for low in range(4)], [3, 3, 3, 4])
        self.assertEqual(best_low([2]), 0)
        self.assertEqual([room([4], low) for low in range(5)], [5, 4, 4, 4, 5])
        self.assertEqual(best_low([4]), 1)

    def test_twenty(self):
        # By 18, 19 and 20 figures the room is 22, 21 and 21.
        self.assertEqual(best_low([2 ** 20 - 1]), 19)
        self.assertEqual(best_low([2 ** 22]), 20)
        self.assertEqual(best_low([10 ** 5000]), 20)

    def test_where_it_is_least_there_may_be_too_few(self):
        self.assertEqual(best_low([0, GREAT]), 20)
        with self.assertRaises(BadCount):
            halves([0, GREAT], 20)

    def test_none_is_better(self):
        for shelf in small_shelves(8) + [MIXED, [900], list(range(0, 4000, 100)), list(range(40))]:
            rooms = [room(shelf, low) for low in range(21)]
            told = best_low(shelf)
            self.assertTrue(all(rooms[low] > rooms[told] for low in range(told)))
            self.assertTrue(all(rooms[low] >= rooms[told] for low in range(told, 21)))


class Refused(unittest.TestCase):
    def test_what_is_no_shelf_of_numbers_from_zero_on(self):
        for at, shelf in enumerate(no_shelves_from_zero()):
            for ask in (bits, best_low):
                with self.subTest(ask=ask.__name__, at=at), self.assertRaises(BadShelf):
                    ask(shelf)

    def test_shelf_ahead_of_the_count(self):
        for at, shelf in enumerate(no_shelves_from_zero()):
            for ask in (halves, room):
                for low in (0, 20, 21, -1, None, True):
                    with self.subTest(ask=ask.__name__, at=at, low=low), self.assertRaises(BadShelf):
                        ask(shelf, low)

    def test_what_is_no_count_of_last_figures(self):
        for at, low in enumerate(no_numbers_within(0, 20)):
            for ask in (halves, room):
                for shelf in ([], [5], [10 ** 5000]):
                    with self.subTest(ask=ask.__name__, at=at), self.assertRaises(BadCount):
                        ask(shelf, low)

    def test_nought_and_a_rising_list_are_taken(self):
        self.assertEqual(bits([0]), "1")
        self.assertEqual(best_low(list(range(40))), 0)


class NothingKept(unittest.TestCase):
    def test_handed_in_stays_as_it_was(self):
        shelf = [0, 5, 9]
        bits(shelf)
        halves(shelf, 2)
        at_place(shelf, 2, 1)
        room(shelf, 2)
        best_low(shelf)
        self.assertEqual(shelf, [0, 5, 9])

    def test_told_is_new(self):
        for low in (2, 20):
            shelf = [0, 5, 9]
            first, second = halves(shelf, low), halves(shelf, low)
            self.assertIsNot(first[0], shelf)
            self.assertIsNot(first[0], second[0])
            first[0].clear()
            self.assertEqual(shelf, [0, 5, 9])
            self.assertEqual(halves(shelf, low), second)
            shelf.clear()
            self.assertEqual(len(second[0]), 3)

    def test_what_is_read_is_new(self):
        for text in ("", "1010011"):
            first, second = read(text), read(text)
            self.assertIsNot(first, second)
            self.assertIsNot(first.shelf, second.shelf)
            whole = list(second.shelf)
            first.shelf.append(99)
            self.assertEqual(second.shelf, whole)
            self.assertEqual(read(text).shelf, whole)


if __name__ == "__main__":
    unittest.main()
