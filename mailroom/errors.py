"""The refusals of the mailroom, one class for each."""


class MailError(ValueError):

    # The refusal's name, by which it is told in a text.
    def refusal(self):
        return "MailError"


class NoWord(MailError):

    def refusal(self):
        return "NoWord"


class NoLetter(MailError):

    def refusal(self):
        return "NoLetter"


class NoRule(MailError):

    # A condition that is read alone stands in no row, so the row is 0 unless one is told.
    def __init__(self, words="", row=0):
        MailError.__init__(self, words)
        self.row = row

    def refusal(self):
        return "NoRule"


class NoName(MailError):

    def refusal(self):
        return "NoName"


class NoParcel(MailError):

    def refusal(self):
        return "NoParcel"


class NoRow(MailError):

    def refusal(self):
        return "NoRow"
