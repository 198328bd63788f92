"""Registers: for each key the value with the greatest stamp."""


class Registers:

    def __init__(self):
        # The keys of one first text lie in one drawer, each with a tuple (stamp, value).
        self.drawers = {}

    def keep(self, key, stamp, value):
        first = key[:1]
        if first not in self.drawers:
            self.drawers[first] = {}
        drawer = self.drawers[first]
        if key in drawer and stamp <= drawer[key][0]:
            return False
        drawer[key] = (stamp, value)
        return True

    def get(self, key, default=None):
        drawer = self.drawers.get(key[:1], {})
        return drawer[key][1] if key in drawer else default

    def keys_of(self, first):
        return sorted(self.drawers.get((first,), {}))
