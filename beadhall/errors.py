"""The refusals: HallError stands above all of them, and none of the others above another.

A refusal about a text keeps the number of the `row`, one about goings the place `at` which it came.
"""


class HallError(ValueError):
    pass


class Unlike(HallError):
    pass


class BadNet(HallError):
    pass


# Three classes below say the same thing of a row, but a class that they shared
# would be a refusal above others, so each says it for itself.
class BadText(HallError):
    def __init__(self, words, row):
        HallError.__init__(self, words)
        self.row = row


class NoGo(HallError):
    def __init__(self, words, at):
        HallError.__init__(self, words)
        self.at = at


class TooWide(HallError):
    pass


class BadAsk(HallError):
    def __init__(self, words, row):
        HallError.__init__(self, words)
        self.row = row


class BadPaper(HallError):
    def __init__(self, words, row):
        HallError.__init__(self, words)
        self.row = row
