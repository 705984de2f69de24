"""The refusals. Each is a class of its own, straight under RackError."""


class RackError(ValueError):
    pass


class NoText(RackError):
    pass


class Twice(RackError):
    pass


class NoWord(RackError):
    def __init__(self, word):
        RackError.__init__(self, word)
        self.word = word


class NoBoard(RackError):
    pass


class NoLaying(RackError):
    pass


class Taken(RackError):
    def __init__(self, row, column):
        RackError.__init__(self, row, column)
        self.row = row
        self.column = column


class Crooked(RackError):
    pass


class Gap(RackError):
    def __init__(self, row, column):
        RackError.__init__(self, row, column)
        self.row = row
        self.column = column


class Apart(RackError):
    pass


class Lacking(RackError):
    def __init__(self, tile):
        RackError.__init__(self, tile)
        self.tile = tile


class TooFew(RackError):
    pass


class NoDeed(RackError):
    pass


class Over(RackError):
    pass


class NoBack(RackError):
    pass


class NoRow(RackError):
    pass
