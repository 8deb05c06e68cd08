"""Where shelves meet, and which of their numbers are near one another."""

from shelvesmeet.checks import check_count, check_far, check_shelves, check_two


def meet(one, other):
    """The numbers on both shelves."""
    check_two(one, other)
    return [number for number in one if number in other]


def meet_places(one, other):
    """The pairs of places at which the same number stands."""
    check_two(one, other)
    return pairs_within(one, other, 0)


def on_many(shelves, many):
    """The numbers on at least so many of the shelves."""
    check_shelves(shelves)
    check_count(many, 1, len(shelves))
    counts = counted(shelves)
    return sorted([number for number in counts if counts[number] >= many])


def near(one, other, far):
    """The pairs of places whose numbers are at most so far apart."""
    check_two(one, other)
    check_far(far)
    return pairs_within(one, other, far)


def pairs_within(one, other, far):
    """The pairs of places, in order, whose numbers are at most so far apart."""
    return [
        (mine, theirs)
        for mine, number in enumerate(one)
        for theirs, their_number in enumerate(other)
        if abs(number - their_number) <= far
    ]


def counted(shelves):
    """For each number, on how many of the shelves it stands."""
    counts = {}
    for shelf in shelves:
        for number in shelf:
            counts[number] = counts.get(number, 0) + 1
    return counts
