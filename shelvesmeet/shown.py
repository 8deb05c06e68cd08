"""Whether looks show where two shelves meet, and the fewest that do."""

from shelvesmeet.answers import Open, Shown
from shelvesmeet.checks import check_looks, check_two
from shelvesmeet.looks import needed_looks, unlooked


def judged(one, other, looks):
    """Shown, or an Open with two other shelves that the looks leave open."""
    check_two(one, other)
    check_looks(looks, one, other)
    missing = unlooked(one, other, looks)
    if missing == []:
        return Shown()
    mine, theirs = missing[0]
    if one[mine] == other[theirs]:
        return parted(one, other, theirs)
    return joined(one, other, mine, theirs)


def fewest_looks(one, other):
    """The fewest looks by which it is shown where the two meet."""
    check_two(one, other)
    return needed_looks(one, other)


def parted(one, other, theirs):
    """The Open in which the number at this place of the other shelf no longer meets one."""
    # All numbers twice as great leave room for one that is 1 more and meets none.
    mine = [2 * number for number in one]
    doubled = [2 * number for number in other]
    doubled[theirs] += 1
    return Open(mine, doubled)


def joined(one, other, mine, theirs):
    """The Open in which two neighbours, each on its shelf alone, are the same number."""
    moved = list(other)
    # No number is between the two, so that no look but the one at them tells this.
    moved[theirs] = one[mine]
    return Open(one, moved)
