"""What the document says of answers, put down apart from the program, and all small inputs to try it with."""

from itertools import combinations, combinations_with_replacement, permutations, product


def told_at(one, other, look):
    """What a look tells."""
    mine, theirs = one[look[0]], other[look[1]]
    return (mine > theirs) - (mine < theirs)


def meets(one, other):
    """The places at which the two meet."""
    return [look for look in every_look(one, other) if told_at(one, other, look) == 0]


def every_look(one, other):
    """All looks at the two."""
    return list(product(range(len(one)), range(len(other))))


def is_open(mine, theirs, one, other, looks):
    """Whether the two first ones are as an Open of the others tells them."""
    for shelf, like in ((mine, one), (theirs, other)):
        if len(shelf) != len(like) or any(low >= high for low, high in zip(shelf, shelf[1:])):
            return False
    same = all(told_at(mine, theirs, look) == told_at(one, other, look) for look in looks)
    return same and meets(mine, theirs) != meets(one, other)


def all_two(many_mine, many_theirs):
    """Two shelves so long in every turn that their numbers can have together, each turn once."""
    numbers = range(many_mine + many_theirs)
    told = {}
    for one in combinations(numbers, many_mine):
        for other in combinations(numbers, many_theirs):
            turn = tuple(told_at(one, other, look) for look in every_look(one, other))
            told.setdefault(turn, (list(one), list(other)))
    return list(told.values())


def some_of(looks):
    """All choices among the looks, from none to all."""
    return [list(chosen) for size in range(len(looks) + 1) for chosen in combinations(looks, size)]


def best_by(worths, many):
    """The best by a list of worths for each list."""
    totals = [sum(row[thing] for row in worths) for thing in range(len(worths[0]))]
    left, told = list(range(len(totals))), []
    while len(told) < many:
        greatest = max(totals[thing] for thing in left)
        told.append(min(thing for thing in left if totals[thing] == greatest))
        left.remove(told[-1])
    return told


def by_thing(lists):
    """For each list a list of the worths of all things."""
    return [[worth for thing, worth in sorted(rows)] for rows in lists]


def seen_or_may_be(lists, depth):
    """For each list and each thing the worths that are tried: the one seen, or such as may be."""
    told = []
    for rows in lists:
        most = rows[depth - 1][1] if depth else 1000
        tried = range(most + 1) if most < 4 else (0, 1, most - 1, most)
        seen = dict(rows[:depth])
        told.append([[seen[thing]] if thing in seen else list(tried) for thing in range(len(rows))])
    return told


def is_unsettled(worths, lists, many, depth):
    """Whether the worths are as an Unsettled of the lists tells them."""
    if len(worths) != len(lists):
        return False
    for row, rows in zip(worths, lists):
        seen = dict(rows[:depth])
        most = rows[depth - 1][1] if depth else 1000
        if len(row) != len(rows):
            return False
        for thing, worth in enumerate(row):
            if worth != seen.get(thing, worth) or not 0 <= worth <= (1000 if thing in seen else most):
                return False
    return best_by(worths, many) != best_by(by_thing(lists), many)


def all_lists(things, most):
    """All lists of worth of so many things with worths from 0 to most."""
    return [
        list(zip(turn, worths[::-1]))
        for turn in permutations(range(things))
        for worths in combinations_with_replacement(range(most + 1), things)
    ]
