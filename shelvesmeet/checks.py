"""What is a number, a shelf, a look and the like, and the refusal of what is none.

No message shows what was handed in: a number may have more figures than
Python writes out, and a list may contain itself.
"""

from shelvesmeet.errors import BadCount, BadFar, BadLooks, BadShelf, BadShelves

MOST_NUMBERS = 40
MOST_SHELVES = 6
MOST_LOOKS = 600


def is_number(value):
    """Whether it is a whole number; True and False are none."""
    return isinstance(value, int) and not isinstance(value, bool)


def is_number_within(value, least, most):
    """Whether it is a number from least to most, both included."""
    return is_number(value) and least <= value <= most


def is_shelf(value):
    """Whether it is a rising list of at most 40 numbers."""
    if not isinstance(value, list) or len(value) > MOST_NUMBERS:
        return False
    for at, number in enumerate(value):
        if not is_number(number):
            return False
        if at > 0 and value[at - 1] >= number:
            return False
    return True


def is_list_of_shelves(value):
    """Whether it is a list of 1 to 6 shelves."""
    if not isinstance(value, list) or not 1 <= len(value) <= MOST_SHELVES:
        return False
    for shelf in value:
        if not is_shelf(shelf):
            return False
    return True


def is_look(value, one, other):
    """Whether it is a pair of a place of one shelf and a place of the other."""
    if not isinstance(value, tuple) or len(value) != 2:
        return False
    mine, theirs = value
    return is_number_within(mine, 0, len(one) - 1) and is_number_within(theirs, 0, len(other) - 1)


def is_list_of_looks(value, one, other):
    """Whether it is a list of at most 600 looks at these shelves."""
    if not isinstance(value, list) or len(value) > MOST_LOOKS:
        return False
    for look in value:
        if not is_look(look, one, other):
            return False
    return True


def check_shelf(value):
    """Refuse what is no shelf."""
    if not is_shelf(value):
        raise BadShelf("a shelf is a rising list of at most 40 whole numbers")


def check_two(one, other):
    """Refuse the two if either is no shelf."""
    check_shelf(one)
    check_shelf(other)


def check_shelves(value):
    """Refuse what is no list of 1 to 6 shelves."""
    if not is_list_of_shelves(value):
        raise BadShelves("shelves are a list of 1 to 6 shelves")


def check_count(value, least, most):
    """Refuse what is no number from least to most."""
    if not is_number_within(value, least, most):
        raise BadCount("this is no count that can be taken here")


def check_far(value):
    """Refuse what is no number from 0 on."""
    if not is_number(value) or value < 0:
        raise BadFar("a distance is a whole number, 0 or more")


def check_looks(value, one, other):
    """Refuse what is no list of at most 600 looks at these shelves."""
    if not is_list_of_looks(value, one, other):
        raise BadLooks("looks are a list of at most 600 pairs of places of the two shelves")
