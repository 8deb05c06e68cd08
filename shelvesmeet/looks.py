"""Looks at two shelves: what they tell, which are made by steps and by leaps, and which are needed."""

from shelvesmeet.checks import check_looks, check_two


def answers(one, other, looks):
    """What each look tells: -1, 0 or 1, as the first shelf's number is less, the same, more."""
    check_two(one, other)
    check_looks(looks, one, other)
    return told_by(one, other, looks)


def by_steps(one, other):
    """The looks that two fingers make which go on by one."""
    check_two(one, other)
    looks = []
    mine = theirs = 0
    while mine < len(one) and theirs < len(other):
        looks.append((mine, theirs))
        told = compared(one[mine], other[theirs])
        if told <= 0:
            mine += 1
        if told >= 0:
            theirs += 1
    return looks


def by_leaps(one, other):
    """The looks that are made when each number of the first shelf is looked for by leaps."""
    check_two(one, other)
    looks = []
    begin = 0
    for mine, number in enumerate(one):
        leaps, low, high = leapt(number, other, begin)
        halfways, low = halved(number, other, low, high)
        looks.extend([(mine, theirs) for theirs in leaps + halfways])
        begin = next_begin(number, other, low)
    return looks


def told_by(one, other, looks):
    """What each look tells."""
    return [compared(one[mine], other[theirs]) for mine, theirs in looks]


def compared(number, other_number):
    """-1, 0 or 1, as the number is less than, the same as, more than the other one."""
    if number < other_number:
        return -1
    if number > other_number:
        return 1
    return 0


def leapt(number, other, begin):
    """The places that are leapt to from begin on, and the low and the high that they leave."""
    places = []
    low = place = begin
    leap = 1
    while place < len(other):
        places.append(place)
        if other[place] >= number:
            return places, low, place
        low = place + 1
        place += leap
        leap *= 2
    return places, low, len(other)


def halved(number, other, low, high):
    """The places halfway that are looked at, and the low that they leave."""
    places = []
    while low < high:
        halfway = (low + high) // 2
        places.append(halfway)
        if other[halfway] < number:
            low = halfway + 1
        else:
            high = halfway
    return places, low


def next_begin(number, other, low):
    """Where the next number is looked for from."""
    if low < len(other) and other[low] == number:
        return low + 1
    return low


def needed_looks(one, other):
    """The fewest looks, in order, by which it is shown where the two meet.

    Without the one at a place where they meet, the two numbers there might be
    unlike; without the one at two neighbours, these two might be the same. With
    them all, the turn of all numbers of both is known.
    """
    numbers = sorted(set(one + other))
    looks = [(one.index(number), other.index(number)) for number in numbers if number in one and number in other]
    for low, high in zip(numbers, numbers[1:]):
        if low not in other and high not in one:
            looks.append((one.index(low), other.index(high)))
        if low not in one and high not in other:
            looks.append((one.index(high), other.index(low)))
    return sorted(looks)


def unlooked(one, other, looks):
    """The needed looks, in order, that aren't among these."""
    return [look for look in needed_looks(one, other) if look not in looks]
