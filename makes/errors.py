"""All refusals of the program."""


class MakeError(ValueError):
    pass


class BadByte(MakeError):
    def __init__(self, at):
        self.at = at


class NoPlace(MakeError):
    def __init__(self, step):
        self.step = step


class BadText(MakeError):
    def __init__(self, at):
        self.at = at


class BadItem(MakeError):
    def __init__(self, path):
        self.path = path


class BadDeed(MakeError):
    def __init__(self, word):
        self.word = word


class NoTable(MakeError):
    def __init__(self, one, other, word):
        self.one = one
        self.other = other
        self.word = word


class NoMove(MakeError):
    def __init__(self, word):
        self.word = word


class NoFile(MakeError):
    def __init__(self, number):
        self.number = number


class NoValue(MakeError):
    pass


class NoRow(MakeError):
    pass
