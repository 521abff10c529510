"""The refusals: one class for each kind, all of them HouseErrors, none under another one."""


class HouseError(ValueError):
    """Any refusal."""


class NoMap(HouseError):
    """What was handed in makes no map."""


class NoCase(HouseError):
    """What was handed in makes no case."""


class NoTree(HouseError):
    """The map of the case is no tree."""


class NoCover(HouseError):
    """No sites serve all of the folk's places."""


class NoOpening(HouseError):
    """It is no opening, or would be none."""


class NoPlace(HouseError):
    """It is no place of the map."""


class NoWay(HouseError):
    """There is no way between the two places."""


class NoSite(HouseError):
    """No site is at the place."""


class NoNumber(HouseError):
    """It is no number such as is asked for."""


class NoFolk(HouseError):
    """Too few of the folk live there, or nobody would be left."""


class NoBack(HouseError):
    """There is no deed to take back."""


class NoNames(HouseError):
    """It does not name the places anew."""


class NoText(HouseError):
    """The text cannot be read; the field line is the number, from 0, of the line at fault."""

    def __init__(self, line):
        self.line = line


class NoRow(HouseError):
    """It is no row that a desk can be told."""
