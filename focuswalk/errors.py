"""The refusals, each straight under one base."""


class FocusError(ValueError):
    """Any refusal."""


class NoSheet(FocusError):
    """A thing is not built as a sheet is."""


class TooMany(FocusError):
    """A sheet has too many parts."""

    def __init__(self, many):
        super().__init__(f"{many} parts are too many")
        self.many = many


class Twice(FocusError):
    """Two parts have one name."""

    def __init__(self, name):
        super().__init__(f"two parts have the name {name!r}")
        self.name = name


class NoHead(FocusError):
    """A part has a head that can be no head of it."""

    def __init__(self, name):
        super().__init__(f"the part {name!r} can't have this head")
        self.name = name


class MustRing(FocusError):
    """The musts go round."""

    def __init__(self, names):
        super().__init__(f"the musts go round: {names!r}")
        self.names = names


class NoText(FocusError):
    """A line of a text is not written as one of a sheet's text."""

    def __init__(self, line):
        super().__init__(f"the line {line} is no line of a sheet's text")
        self.line = line


class NoPart(FocusError):
    """No part has this name."""

    def __init__(self, name):
        super().__init__(f"no part has the name {name!r}")
        self.name = name


class NotOpen(FocusError):
    """A part isn't open."""

    def __init__(self, why):
        super().__init__(f"the part isn't open: {why!r}")
        self.why = why


class NoWay(FocusError):
    """No row of ways leads from the one part to the other."""

    def __init__(self, names):
        super().__init__(f"no way leads out of {names!r}")
        self.names = names


class NoDeed(FocusError):
    """A thing is no deed."""


class NoPlace(FocusError):
    """A part can't be put at this number."""


class NoKey(FocusError):
    """A text is none of the keys asked for."""


class NoLine(FocusError):
    """A line is none that the desk takes."""
