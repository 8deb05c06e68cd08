"""What several tests hand in: values that are no shelves, looks, texts and the like, and small shelves."""

from itertools import combinations

GREAT = 10 ** 30
# Totals: 0 has 9, 1 has 16, 2 has 9, 3 has 4.
TWO = [[(1, 10), (0, 8), (3, 4), (2, 0)], [(2, 9), (1, 6), (0, 1), (3, 0)]]
NO_NUMBERS = [True, False, None, "1", [1], 1.0, float("nan"), (1,), {}, b"1", object(), {1}]


def itself():
    """A list that contains itself."""
    rows = []
    rows.append(rows)
    return rows


def with_member(member):
    """Lists that would be shelves but for the member at the first, a middle and the last place."""
    return [[member, 5, 9], [-5, member, 9], [-9, -5, member], [member]]


def no_shelves():
    """What is no shelf, of every kind, new at each call."""
    told = [
        None, True, False, 0, 7, 1.5, "", "abc", b"ab", (), (1, 2, 3), {}, {1: 2}, set(), {1, 2},
        range(3), iter([1, 2]), object(), list, itself(), [[]], [[1]],
        [2, 1], [1, 3, 2], [3, 1, 2], [1, 2, 3, 0],
        [1, 1], [0, 1, 1, 2], [0, 1, 1], [0, 0, 1], [-1, -1],
        list(range(41)), list(range(1000)), [10 ** 5000, 10 ** 5000 - 1],
    ]
    for member in NO_NUMBERS:
        told.extend(with_member(member))
    return told


def no_shelves_from_zero():
    """What is no shelf of numbers from 0 on, of every kind, new at each call."""
    return no_shelves() + [[-1], [-1, 0], [-1, 5, 9], [-GREAT], [-GREAT, GREAT], list(range(-1, 39))]


def no_numbers_within(least, most):
    """What is no number from least to most, of every kind."""
    return [least - 1, most + 1, -GREAT, GREAT, -(10 ** 5000), 10 ** 5000, *NO_NUMBERS]


def no_looks(many_mine, many_theirs):
    """What are no looks at shelves of so many numbers, at least two on each, new at each call."""
    told = [None, True, 0, "", "ab", b"", (), ((0, 0),), {}, {(0, 0): 1}, set(), {(0, 0)}, iter([]), object()]
    told += [itself(), [(0, 0)] * 601, [(0, 0)] * 600 + [None]]
    wrong = [None, 0, True, "00", b"00", [0, 0], [], {}, (), (0,), (0, 0, 0), ((0, 0), 0)]
    wrong += [(-1, 0), (0, -1), (many_mine, 0), (0, many_theirs), (GREAT, 0), (0, -GREAT), (10 ** 5000, 0)]
    for member in NO_NUMBERS:
        wrong += [(member, 0), (0, member)]
    for look in wrong:
        told += [[look], [look, (0, 0)], [(0, 0), (1, 1), look]]
    return told


def no_texts():
    """What is no text of at most 400 noughts and ones, new at each call."""
    return [
        None, True, False, 0, 1, 101, 1.0, b"", b"1", b"101", [], ["1"], ["1", "0"], ("1",), {}, {"1": 1}, {"1"},
        iter("1"), object(), str, itself(), "2", "a", " ", "1 ", " 1", "1\n", "\n", "-1", "+1", "1_1", "0b1", "12",
        "1012", "2101", "10 1", "\0", "\u0661", "\uff11", "1\u0660", "O", "l", "1" * 401, "0" * 401, "1" * 4000,
        "1" * 399 + "2", "1" * 400 + "\n",
    ]


def no_lists():
    """What are no lists of worth, new at each call."""
    good = [(1, 7), (0, 5), (2, 5)]
    told = [
        None, True, 0, 3, 1.5, "", "ab", b"ab", (), (good,), {}, {0: good}, set(), iter([good]), object(), list,
        itself(), [], [[]], [[], []], [good, []], [[], good], [good] * 5, [tuple(good)], [good, tuple(good)],
        [good, {0: 1}], [good, None], [None, good], [dict(good)], ["abc"], [good, "abc"], [iter(good)], good, [[good]],
        [[(thing, 0) for thing in range(9)]], [[(thing, 0) for thing in range(9)]] * 2,
        [good, good[:2]], [good[:2], good], [good[1:]], [good, [(1, 7), (0, 5)]], [good, good + [(3, 0)]],
        [good, good + [(2, 5)]], [good, good + [(0, 0)]], [good, good + good],
        [[(0, 1), (0, 1)]], [[(1, 1), (1, 1)]], [[(1, 1), (2, 1)]], [[(1, 5)]], [[(0, 3), (1, 2), (1, 1)]],
        [[(0, 3), (1, 4)]], [[(0, 9), (1, 3), (2, 4)]], [[(0, 0), (1, 1000)]], [good, [(0, 1), (1, 2), (2, 3)]],
        [[(0, 1001)]], [[(0, -1)]], [[(0, 5), (1, -1)]], [[(0, GREAT), (1, 5)]], [[(0, 5), (1, -GREAT)]],
        [[(-1, 5), (0, 5)]], [[(0, 5), (-1, 5)]], [[(0, 10 ** 5000)]], [[(10 ** 5000, 0)]],
    ]
    rows = [None, 5, "05", [0, 5], (), (0,), (0, 5, 5), ((0, 5), 5), {0: 5}, {0, 5}, object()]
    for member in NO_NUMBERS:
        rows += [(member, 5), (0, member)]
    for row in rows:
        told += [[[row]], [[row, (1, 5)]], [[(1, 5), row]], [[(0, 5), (1, 5)], [(1, 5), row]]]
    return told


def small_shelves(many):
    """All shelves of numbers from 0 to below many."""
    return [list(chosen) for size in range(many + 1) for chosen in combinations(range(many), size)]
