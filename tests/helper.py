"""What several tests need."""

# Things of every kind that are no text; truths and numbers among them.
NO_TEXTS = [
    None, True, False, 0, 1, -1, 12, 1.5, b"", b"a", [], ["a"], ["a", "b"], (), ("a",), ("a", "b"),
    {}, {"a": "b"}, {"a"}, object(), str, len,
]


class LikeAll:
    """A thing that says of everything that it is equal to it."""

    def __eq__(self, other):
        return True

    def __ne__(self, other):
        return False

    def __len__(self):
        return 1

    def __iter__(self):
        return iter("a")

    def __contains__(self, sign):
        return False


NO_TEXTS.append(LikeAll())
