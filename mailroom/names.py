"""Names that are there and names that are not, as threads, the index and folders ask for them alike."""

from mailroom.errors import NoName


def check_there(name, there):
    if name not in there:
        raise NoName("the name is not there")


def check_new(name, there):
    # What is no text is never there, so it can't come to be there.
    if not isinstance(name, str) or name in there:
        raise NoName("the name is there already, or is no text")
