"""Shelves of numbers from 0 on squeezed into bits, and halved by their last figures."""

from shelvesmeet.answers import Broken, Read, read_gaps
from shelvesmeet.checks import check_count, check_place, check_shelf_from_zero, check_text
from shelvesmeet.errors import BadCount

MOST_LOW = 20
MOST_ABOVE = 400


def bits(shelf):
    """The text of noughts and ones in which the gaps of the shelf are written."""
    check_shelf_from_zero(shelf)
    aheads = [-1] + shelf[:-1]
    return "".join(gap_bits(number - ahead) for number, ahead in zip(shelf, aheads))


def read(text):
    """A Read of the shelf whose bits the text is, or a Broken of where a gap doesn't end."""
    check_text(text)
    shelf, place = read_gaps(text)
    if place < len(text):
        return Broken(place)
    return Read(shelf)


def halves(shelf, low):
    """The last figures of each number, so many, and the signs of what is above them."""
    check_halved(shelf, low)
    if last_above(shelf, low) > MOST_ABOVE:
        raise BadCount("these are too few last figures for this shelf")
    lasts = [number - (number >> low << low) for number in shelf]
    aboves = [number >> low for number in shelf]
    aheads = [0] + aboves[:-1]
    signs = "".join("0" * (above - ahead) + "1" for above, ahead in zip(aboves, aheads))
    return lasts, signs


def at_place(shelf, low, place):
    """The number at a place, put together from the halves."""
    lasts, signs = halves(shelf, low)
    check_place(place, len(lasts) - 1)
    runs = signs.split("1")
    above = sum([len(run) for run in runs[:place + 1]])
    return (above << low) + lasts[place]


def room(shelf, low):
    """How many figures and signs the halves have."""
    check_halved(shelf, low)
    return room_of(shelf, low)


def best_low(shelf):
    """By how many last figures the room is least; of several the least."""
    check_shelf_from_zero(shelf)
    rooms = [room_of(shelf, low) for low in range(MOST_LOW + 1)]
    return rooms.index(min(rooms))


def check_halved(shelf, low):
    """Refuse what is no shelf of numbers from 0 on, then what is no count of last figures."""
    check_shelf_from_zero(shelf)
    check_count(low, 0, MOST_LOW)


def gap_bits(gap):
    """The figures of a gap in twos, and ahead of them a nought for each but the first."""
    figures = f"{gap:b}"
    return "0" * (len(figures) - 1) + figures


def last_above(shelf, low):
    """What is above the last figures of the last number; 0 if there is none."""
    if shelf == []:
        return 0
    return shelf[-1] >> low


def room_of(shelf, low):
    """The figures, so many for each number, and the signs: all noughts, and a one for each number."""
    return len(shelf) * low + last_above(shelf, low) + len(shelf)
