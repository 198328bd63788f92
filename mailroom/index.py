"""The index: names, each with its words, and which of them have a word."""

from mailroom.names import check_new, check_there


class Index:

    def __init__(self):
        self.entries = {}
        # Of each word that a name there has, the names that have it, as keys.
        self.bearers = {}

    def add(self, name, words):
        check_new(name, self.entries)
        self.entries[name] = sorted(set(words))
        for word in self.entries[name]:
            if word not in self.bearers:
                self.bearers[word] = {}
            self.bearers[word][name] = True

    def take_out(self, name):
        check_there(name, self.entries)
        words = self.entries.pop(name)
        for word in words:
            self.bearers[word].pop(name)
            if not self.bearers[word]:
                self.bearers.pop(word)

    def having(self, word):
        return sorted(self.bearers.get(word, {}))

    def words(self, name):
        check_there(name, self.entries)
        return list(self.entries[name])

    def all_words(self):
        return sorted(self.bearers)
