"""The refusals of the package, one class for each."""


class NetError(ValueError):
    pass


class BadFraction(NetError):
    pass


class BadNet(NetError):
    pass


class NoPlace(NetError):
    pass


class NoPipe(NetError):
    pass


class BadFlows(NetError):
    pass


class BadRow(NetError):
    # The row's number is a value of its own, so that the words needn't tell it.
    def __init__(self, row):
        NetError.__init__(self, "a row of the text can't be read as a net's")
        self.row = row
