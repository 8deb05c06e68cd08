"""The best on many lists, and how deep the lists must be seen to settle them."""

from shelvesmeet.answers import Settled, Unsettled, best_of, least_worths, most_worths, turned
from shelvesmeet.checks import check_count, check_lists, check_place


def best(lists, many):
    """The so many things with the greatest totals."""
    check_asked(lists, many)
    return best_of(lists, many)


def judged_to(lists, many, depth):
    """A Settled of the best, or an Unsettled of worths that may be and by which they aren't."""
    check_asked(lists, many)
    check_place(depth, len(lists[0]))
    behind = turned(lists, many, depth)
    if behind == []:
        return Settled(best_of(lists, many))
    return raised(lists, depth, behind[0])


def depth_of(lists, many):
    """The least depth that settles."""
    check_asked(lists, many)
    depth = 0
    # At the depth of all rows nothing is unseen, so this ends.
    while turned(lists, many, depth) != []:
        depth += 1
    return depth


def check_asked(lists, many):
    """Refuse what are no lists of worth, then what is no count of their things."""
    check_lists(lists)
    check_count(many, 0, len(lists[0]))


def raised(lists, depth, thing):
    """The Unsettled in which this thing has the greatest worths that may be and all others the least."""
    leasts = least_worths(lists, depth)
    mosts = most_worths(lists, depth)
    return Unsettled([least[:thing] + [most[thing]] + least[thing + 1:] for least, most in zip(leasts, mosts)])
