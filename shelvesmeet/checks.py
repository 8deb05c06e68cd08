"""What is a number, a shelf, a look and the like, and the refusal of what is none.

No message shows what was handed in: a number may have more figures than
Python writes out, and a list may contain itself.
"""

from shelvesmeet.errors import BadBits, BadCount, BadFar, BadLists, BadLooks, BadPlace, BadShelf, BadShelves

MOST_NUMBERS = 40
MOST_SHELVES = 6
MOST_LOOKS = 600
MOST_SIGNS = 400
MOST_LISTS = 4
MOST_THINGS = 8
MOST_WORTH = 1000


def is_number(value):
    """Whether it is a whole number; True and False are none."""
    return isinstance(value, int) and not isinstance(value, bool)


def is_number_within(value, least, most):
    """Whether it is a number from least to most, both included."""
    return is_number(value) and least <= value <= most


def is_list_of_numbers(value):
    """Whether it is a list of numbers, of any length and in any turn."""
    return isinstance(value, list) and all(is_number(number) for number in value)


def is_rising(value):
    """Whether it is a rising list of numbers, of any length."""
    return is_list_of_numbers(value) and all(low < high for low, high in zip(value, value[1:]))


def is_shelf(value):
    """Whether it is a rising list of at most 40 numbers."""
    return is_rising(value) and len(value) <= MOST_NUMBERS


def is_shelf_from_zero(value):
    """Whether it is a shelf with no number below 0."""
    return is_shelf(value) and (value == [] or value[0] >= 0)


def is_list_of_shelves(value):
    """Whether it is a list of 1 to 6 shelves."""
    if not isinstance(value, list) or not 1 <= len(value) <= MOST_SHELVES:
        return False
    for shelf in value:
        if not is_shelf(shelf):
            return False
    return True


def is_look(value, one, other):
    """Whether it is a pair of a place of one shelf and a place of the other."""
    if not isinstance(value, tuple) or len(value) != 2:
        return False
    mine, theirs = value
    return is_number_within(mine, 0, len(one) - 1) and is_number_within(theirs, 0, len(other) - 1)


def is_list_of_looks(value, one, other):
    """Whether it is a list of at most 600 looks at these shelves."""
    if not isinstance(value, list) or len(value) > MOST_LOOKS:
        return False
    for look in value:
        if not is_look(look, one, other):
            return False
    return True


def is_text_of_bits(value):
    """Whether it is a text of at most 400 noughts and ones."""
    return isinstance(value, str) and len(value) <= MOST_SIGNS and all(sign in "01" for sign in value)


def is_row(value, many_things, most):
    """Whether it is a pair of one of so many things and a worth from 0 to most."""
    if not isinstance(value, tuple) or len(value) != 2:
        return False
    thing, worth = value
    return is_number_within(thing, 0, many_things - 1) and is_number_within(worth, 0, most)


def is_list_of_worth(value, many_things):
    """Whether it has a row for each of so many things, none worth more than the one ahead."""
    if not isinstance(value, list) or len(value) != many_things:
        return False
    seen = set()
    most = MOST_WORTH
    for row in value:
        if not is_row(row, many_things, most):
            return False
        thing, most = row
        seen.add(thing)
    return len(seen) == many_things


def are_lists_of_worth(value):
    """Whether it is a list of 1 to 4 lists of worth of the same 1 to 8 things."""
    if not isinstance(value, list) or not 1 <= len(value) <= MOST_LISTS:
        return False
    first = value[0]
    if not isinstance(first, list) or not 1 <= len(first) <= MOST_THINGS:
        return False
    return all(is_list_of_worth(rows, len(first)) for rows in value)


def check_shelf(value):
    """Refuse what is no shelf."""
    if not is_shelf(value):
        raise BadShelf("a shelf is a rising list of at most 40 whole numbers")


def check_two(one, other):
    """Refuse the two if either is no shelf."""
    check_shelf(one)
    check_shelf(other)


def check_shelf_from_zero(value):
    """Refuse what is no shelf of numbers from 0 on."""
    if not is_shelf_from_zero(value):
        raise BadShelf("this takes a rising list of at most 40 whole numbers from 0 on")


def check_shelves(value):
    """Refuse what is no list of 1 to 6 shelves."""
    if not is_list_of_shelves(value):
        raise BadShelves("shelves are a list of 1 to 6 shelves")


def check_count(value, least, most):
    """Refuse what is no number from least to most."""
    if not is_number_within(value, least, most):
        raise BadCount("this is no count that can be taken here")


def check_far(value):
    """Refuse what is no number from 0 on."""
    if not is_number(value) or value < 0:
        raise BadFar("a distance is a whole number, 0 or more")


def check_looks(value, one, other):
    """Refuse what is no list of at most 600 looks at these shelves."""
    if not is_list_of_looks(value, one, other):
        raise BadLooks("looks are a list of at most 600 pairs of places of the two shelves")


def check_text(value):
    """Refuse what is no text of at most 400 noughts and ones."""
    if not is_text_of_bits(value):
        raise BadBits("bits are a text of at most 400 noughts and ones")


def check_lists(value):
    """Refuse what is no list of 1 to 4 lists of worth."""
    if not are_lists_of_worth(value):
        raise BadLists("lists of worth are 1 to 4 lists of pairs of the same 1 to 8 things and their worths")


def check_place(value, most):
    """Refuse what is no number from 0 to most."""
    if not is_number_within(value, 0, most):
        raise BadPlace("there is no such place or depth here")
