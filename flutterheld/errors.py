"""The errors of the package: each one keeps what it is made of, as it is."""


class TapeError(ValueError):
    """What every error of the package is; it is raised nowhere itself."""


class Cut(TapeError):
    """The fuse of a Deck burnt out while a SLOT was written or cleared."""

    def __init__(self, which=None, place=None):
        self.which = which
        self.place = place


class Early(TapeError):
    """A moment was handed in that lies ahead of the last one."""

    def __init__(self, moment=None):
        self.moment = moment


class Full(TapeError):
    """There is no room left."""


class NoBody(TapeError):
    """No BODY has this number."""

    def __init__(self, number=None):
        self.number = number


class NoCommand(TapeError):
    """A line is no command."""


class NoFile(TapeError):
    """There is no file of this name."""

    def __init__(self, name=None):
        self.name = name


class NotLetBy(TapeError):
    """A FORMAT is not let by."""


class NotMended(TapeError):
    """An Archive has not been mended yet."""


class Taken(TapeError):
    """There is a file of this name already."""

    def __init__(self, name=None):
        self.name = name


class TooMany(TapeError):
    """There are more than so many."""

    def __init__(self, most=None):
        self.most = most


class Wrong(TapeError):
    """The argument at this place is not as described."""

    def __init__(self, place=None):
        self.place = place
