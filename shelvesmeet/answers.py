"""What is told of shelves and looks, of texts and of lists of worth, and whether it is so.

No answer keeps a list that it is handed. Whether it is so is judged by its fields
as they stand, which may have been made by hand.
"""

from shelvesmeet.checks import MOST_WORTH, is_list_of_numbers, is_number, is_number_within, is_rising
from shelvesmeet.looks import told_by, unlooked
from shelvesmeet.shelves import pairs_within


class Answer:
    """What every answer is."""


class Shown(Answer):
    """All two shelves, as long, that answer the looks as these do, meet at the same places."""

    def shows(self, one, other, looks):
        """Whether it is so of these shelves and looks."""
        return unlooked(one, other, looks) == []


class Open(Answer):
    """Two shelves that answer the looks as those asked of, are as long, and meet elsewhere."""

    def __init__(self, mine, theirs):
        self.mine = copied(mine)
        self.theirs = copied(theirs)

    def shows(self, one, other, looks):
        """Whether it is so of these shelves and looks."""
        if not is_rising(self.mine) or not is_rising(self.theirs):
            return False
        if len(self.mine) != len(one) or len(self.theirs) != len(other):
            return False
        if told_by(self.mine, self.theirs, looks) != told_by(one, other, looks):
            return False
        return pairs_within(self.mine, self.theirs, 0) != pairs_within(one, other, 0)


class Read(Answer):
    """The shelf, of any length, whose bits a text is."""

    def __init__(self, shelf):
        self.shelf = copied(shelf)

    def shows(self, text):
        """Whether it is so of this text."""
        shelf, place = read_gaps(text)
        return place == len(text) and is_list_of_numbers(self.shelf) and self.shelf == shelf


class Broken(Answer):
    """The place of a text at which a gap begins that doesn't end within it."""

    def __init__(self, place):
        self.place = copied(place)

    def shows(self, text):
        """Whether it is so of this text."""
        place = read_gaps(text)[1]
        return place < len(text) and is_number(self.place) and self.place == place


class Settled(Answer):
    """The things that are the best, in this turn, whatever is unseen."""

    def __init__(self, things):
        self.things = copied(things)

    def shows(self, lists, many, depth):
        """Whether it is so of these lists of worth to this depth."""
        if not is_list_of_numbers(self.things) or self.things != best_of(lists, many):
            return False
        return turned(lists, many, depth) == []


class Unsettled(Answer):
    """For each list a list of worths that may be, by which the best are others or in another turn."""

    def __init__(self, worths):
        self.worths = copied(worths)

    def shows(self, lists, many, depth):
        """Whether it is so of these lists of worth to this depth."""
        if not may_be(self.worths, lists, depth):
            return False
        return ranked(totals(self.worths))[:many] != best_of(lists, many)


def copied(value):
    """The value, where it is a list a new one, with new lists for those within."""
    if not isinstance(value, list):
        return value
    return [list(member) if isinstance(member, list) else member for member in value]


def read_gaps(text):
    """The shelf of the gaps that end within the text, and the place behind the last of these."""
    shelf = []
    number = -1
    place = 0
    while (end := gap_end(text, place)) is not None:
        number += int(text[place:end], 2)
        shelf.append(number)
        place = end
    return shelf, place


def gap_end(text, place):
    """The place behind the gap that begins at this one, None if it doesn't end within the text."""
    first = text.find("1", place)
    # As many figures follow the first one as there are noughts ahead of it.
    end = first + (first - place) + 1
    if first < 0 or end > len(text):
        return None
    return end


def best_of(lists, many):
    """The best so many things by the lists."""
    return ranked(totals(least_worths(lists, len(lists[0]))))[:many]


def ranked(thing_totals):
    """All things, the greatest total first, of alike ones the lesser thing."""
    return sorted(range(len(thing_totals)), key=lambda thing: (-thing_totals[thing], thing))


def totals(worths):
    """For each thing its worths on all lists together."""
    return [sum(column) for column in zip(*worths)]


def least_worths(lists, depth):
    """For each list a list of the least worth that each thing may have."""
    return [filled(rows, depth, 0) for rows in lists]


def most_worths(lists, depth):
    """For each list a list of the greatest worth that each thing may have."""
    return [filled(rows, depth, most_unseen(rows, depth)) for rows in lists]


def most_unseen(rows, depth):
    """The greatest worth that a thing may have which isn't seen."""
    if depth == 0:
        return MOST_WORTH
    return rows[depth - 1][1]


def filled(rows, depth, unseen):
    """For each thing its worth where it is seen, and this one where it isn't."""
    worths = [unseen for row in rows]
    for thing, worth in rows[:depth]:
        worths[thing] = worth
    return worths


def turned(lists, many, depth):
    """The things behind one of the best that may, by what is unseen, come ahead of it.

    What is unseen of one thing doesn't hang on another's, so the worst is that the
    one ahead has the least that may be and the one behind the greatest.
    """
    least = totals(least_worths(lists, depth))
    most = totals(most_worths(lists, depth))
    order = best_of(lists, len(lists[0]))
    return [
        behind
        for at, ahead in enumerate(order[:many])
        for behind in order[at + 1:]
        if (-most[behind], behind) < (-least[ahead], ahead)
    ]


def may_be(worths, lists, depth):
    """Whether it is for each list a list of worths, those seen and such as may be."""
    if not isinstance(worths, list) or len(worths) != len(lists):
        return False
    leasts = least_worths(lists, depth)
    mosts = most_worths(lists, depth)
    return all(row_may_be(row, least, most) for row, least, most in zip(worths, leasts, mosts))


def row_may_be(row, least, most):
    """Whether it is a list of numbers, each from its least to its most."""
    if not isinstance(row, list) or len(row) != len(least):
        return False
    return all(is_number_within(worth, low, high) for worth, low, high in zip(row, least, most))
