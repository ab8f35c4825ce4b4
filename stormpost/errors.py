"""The refusals: each a class straight under PostError, none under another one."""


class PostError(ValueError):
    pass


class BadSign(PostError):
    pass


class BadCell(PostError):
    pass


class BadMeasure(PostError):
    pass


class BadFate(PostError):
    pass


class BadModel(PostError):
    pass


class NoLink(PostError):
    pass


class BadPiece(PostError):
    pass


class BadLetter(PostError):
    pass


class BadNews(PostError):
    pass


class BadHouse(PostError):
    pass


class BadName(PostError):
    pass


class NoStream(PostError):
    pass


class NoAsk(PostError):
    pass


class BadNet(PostError):
    pass


class BadText(PostError):
    def __init__(self, words, row):
        PostError.__init__(self, words)
        self.row = row
