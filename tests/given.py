"""What several tests hand in: values that are no shelves, and small shelves."""

from itertools import combinations

NO_NUMBERS = [True, False, None, "1", [1], 1.0, float("nan"), (1,), {}, b"1", object(), {1}]


def itself():
    """A list that contains itself."""
    rows = []
    rows.append(rows)
    return rows


def with_member(member):
    """Lists that would be shelves but for the member at the first, a middle and the last place."""
    return [[member, 5, 9], [-5, member, 9], [-9, -5, member], [member]]


def no_shelves():
    """What is no shelf, of every kind, new at each call."""
    told = [
        None, True, False, 0, 7, 1.5, "", "abc", b"ab", (), (1, 2, 3), {}, {1: 2}, set(), {1, 2},
        range(3), iter([1, 2]), object(), list, itself(), [[]], [[1]],
        [2, 1], [1, 3, 2], [3, 1, 2], [1, 2, 3, 0],
        [1, 1], [0, 1, 1, 2], [0, 1, 1], [0, 0, 1], [-1, -1],
        list(range(41)), list(range(1000)), [10 ** 5000, 10 ** 5000 - 1],
    ]
    for member in NO_NUMBERS:
        told.extend(with_member(member))
    return told


def small_shelves(many):
    """All shelves of numbers from 0 to below many."""
    return [list(chosen) for size in range(many + 1) for chosen in combinations(range(many), size)]
