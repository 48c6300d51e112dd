"""The refusals, each of a class of its own, straight under NoughtError."""


class NoughtError(ValueError):
    pass


class NoTable(NoughtError):
    pass


class NoWay(NoughtError):
    pass


class NoSet(NoughtError):
    pass


class NoRest(NoughtError):
    pass


class NoLine(NoughtError):
    pass


class NoRow(NoughtError):
    pass


class NoTables(NoughtError):

    def __init__(self, at):
        self.at = at


class Below(NoughtError):

    def __init__(self, at):
        self.at = at


class NoText(NoughtError):

    def __init__(self, at):
        self.at = at


class TooGreat(NoughtError):

    def __init__(self, many, most):
        self.many = many
        self.most = most
