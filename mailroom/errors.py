"""The refusals of the mailroom, one class for each."""


class MailError(ValueError):
    pass


class NoWord(MailError):
    pass


class NoLetter(MailError):
    pass


class NoRule(MailError):

    # A condition that is read alone stands in no row, so the row is 0 unless one is told.
    def __init__(self, words="", row=0):
        MailError.__init__(self, words)
        self.row = row


class NoName(MailError):
    pass


class NoParcel(MailError):
    pass


class NoRow(MailError):
    pass
