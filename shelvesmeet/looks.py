"""Looks at two shelves: what they tell, and which are made by steps and by leaps."""

from shelvesmeet.checks import check_looks, check_two


def answers(one, other, looks):
    """What each look tells: -1, 0 or 1, as the first shelf's number is less, the same, more."""
    check_two(one, other)
    check_looks(looks, one, other)
    return [compared(one[mine], other[theirs]) for mine, theirs in looks]


def by_steps(one, other):
    """The looks that two fingers make which go on by one."""
    check_two(one, other)
    looks = []
    mine = theirs = 0
    while mine < len(one) and theirs < len(other):
        looks.append((mine, theirs))
        told = compared(one[mine], other[theirs])
        if told <= 0:
            mine += 1
        if told >= 0:
            theirs += 1
    return looks


def by_leaps(one, other):
    """The looks that are made when each number of the first shelf is looked for by leaps."""
    check_two(one, other)
    looks = []
    begin = 0
    for mine, number in enumerate(one):
        leaps, low, high = leapt(number, other, begin)
        halfways, low = halved(number, other, low, high)
        looks.extend([(mine, theirs) for theirs in leaps + halfways])
        begin = next_begin(number, other, low)
    return looks


def compared(number, other_number):
    """-1, 0 or 1, as the number is less than, the same as, more than the other one."""
    if number < other_number:
        return -1
    if number > other_number:
        return 1
    return 0


def leapt(number, other, begin):
    """The places that are leapt to from begin on, and the low and the high that they leave."""
    places = []
    low = place = begin
    leap = 1
    while place < len(other):
        places.append(place)
        if other[place] >= number:
            return places, low, place
        low = place + 1
        place += leap
        leap *= 2
    return places, low, len(other)


def halved(number, other, low, high):
    """The places halfway that are looked at, and the low that they leave."""
    places = []
    while low < high:
        halfway = (low + high) // 2
        places.append(halfway)
        if other[halfway] < number:
            low = halfway + 1
        else:
            high = halfway
    return places, low


def next_begin(number, other, low):
    """Where the next number is looked for from."""
    if low < len(other) and other[low] == number:
        return low + 1
    return low
