"""The errors of the package. Each keeps what it was made with."""


class LoneError(ValueError):
    """What all errors of the package have in common; it is raised nowhere itself."""


class Wrong(LoneError):
    """An argument is not as described; place counts the arguments from 0."""

    def __init__(self, place):
        self.place = place


class NoEnd(LoneError):
    """A value is no end."""

    def __init__(self, end):
        self.end = end


class NoSize(LoneError):
    """A value is no size of the rule."""

    def __init__(self, size):
        self.size = size


class NoChoice(LoneError):
    """A choice does not fit into its stretch."""


class BadSale(LoneError):
    """The member of a play at this index is no sale that is offered at its time."""

    def __init__(self, at):
        self.at = at


class NoSale(LoneError):
    """A sale is not offered."""

    def __init__(self, sale):
        self.sale = sale


class BadStep(LoneError):
    """The member of a script at this index cannot be made."""

    def __init__(self, at):
        self.at = at


class Nothing(LoneError):
    """There is nothing to take back or to do again."""


class BadEdit(LoneError):
    """A value is no edit."""


class NoText(LoneError):
    """A text cannot be read; line is the number of the first line that cannot stand there."""

    def __init__(self, line):
        self.line = line


class NoCommand(LoneError):
    """A line is no command."""
