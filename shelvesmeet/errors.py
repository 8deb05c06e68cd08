"""The refusals of the program."""


class ShelfError(ValueError):
    """What every refusal of the program is."""


class BadShelf(ShelfError):
    """What was handed in is no shelf."""


class BadShelves(ShelfError):
    """What was handed in is no list of so many shelves."""


class BadLooks(ShelfError):
    """What was handed in is no list of looks at the two shelves."""


class BadCount(ShelfError):
    """What was handed in is no count that can be taken here."""


class BadFar(ShelfError):
    """What was handed in is no distance."""


class BadBits(ShelfError):
    """What was handed in is no text of noughts and ones."""


class BadLists(ShelfError):
    """What was handed in are no lists of worth."""


class BadPlace(ShelfError):
    """What was handed in is no place or depth that there is."""
