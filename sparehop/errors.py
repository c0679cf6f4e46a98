"""The errors of the package, one class for each kind of failure."""


class FleetError(ValueError):
    """What all errors of the package are; it is raised nowhere itself."""


class Wrong(FleetError):
    """The argument with the number place is not as described."""

    def __init__(self, place):
        self.place = place


class NoText(FleetError):
    """A text is at fault, first in this line, there first in this column."""

    def __init__(self, line, column):
        self.line = line
        self.column = column


class NoFleet(FleetError):
    """A value is no fleet."""

    def __init__(self, fault):
        self.fault = fault


class NoLease(FleetError):
    """A value is no lease of the fleet."""

    def __init__(self, lease):
        self.lease = lease


class NoTable(FleetError):
    """A value is no table of the fleet."""

    def __init__(self, fault):
        self.fault = fault


class NoEdit(FleetError):
    """The edit with this index cannot be done."""

    def __init__(self, index):
        self.index = index


class NoWay(FleetError):
    """No script leads there, as this lease is pinned."""

    def __init__(self, lease):
        self.lease = lease


class NoMerge(FleetError):
    """Two plans cannot be merged, as these two differences quarrel."""

    def __init__(self, quarrel):
        self.quarrel = quarrel


class NoGrant(FleetError):
    """No plan grants all wishes."""


class NoTime(FleetError):
    """More edits are due up to this stretch than can be done until then."""

    def __init__(self, stretch):
        self.stretch = stretch


class NoNumber(FleetError):
    """There is nothing with this number, as there are only so many."""

    def __init__(self, many):
        self.many = many


class TooMany(FleetError):
    """There are more than so many."""

    def __init__(self, most):
        self.most = most


class NoCommand(FleetError):
    """A line is no command of the desk."""

    def __init__(self, line):
        self.line = line


class Nothing(FleetError):
    """There is nothing left to be done, or to be taken back."""
