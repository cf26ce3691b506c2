"""The errors of neatwright: all stand under NeatFault, a ValueError."""


class NeatFault(ValueError):
    """What neatwright refuses."""


class BadSign(NeatFault):
    """A sign, or a row of signs, that isn't the language's."""


class BadTree(NeatFault):
    """A tree that is no program."""


class BadLayout(NeatFault):
    """A layout that can't be."""


class BadRun(NeatFault):
    """A program that can't go on."""


class BadChange(NeatFault):
    """A change that would not leave the meaning, or doesn't fit."""


class BadPaper(NeatFault):
    """A paper that doesn't show what it is to show."""


class BadSize(NeatFault):
    """A count or number that is out of bounds."""


class BadStore(NeatFault):
    """Kept words that aren't whole."""


class NoSuch(NeatFault):
    """What isn't there."""
