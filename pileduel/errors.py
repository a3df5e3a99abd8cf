"""The refusals of the program, one class for each."""


class DuelError(ValueError):
    pass


class NoText(DuelError):
    def __init__(self, row):
        self.row = row


class NoGame(DuelError):
    def __init__(self, word, at):
        self.word = word
        self.at = at


class NoSaying(DuelError):
    def __init__(self, at):
        self.at = at


class TooMany(DuelError):
    def __init__(self, most):
        self.most = most


class NoPaper(DuelError):
    def __init__(self, at):
        self.at = at


class NoFit(DuelError):
    pass


class NoProgram(DuelError):
    def __init__(self, procedure, step):
        self.procedure = procedure
        self.step = step


class NoRow(DuelError):
    pass
