"""Folders: names, each in one folder and with marks, and how many of them a folder has."""

from mailroom.names import check_new, check_there

SEEN = "seen"


class Folders:

    def __init__(self):
        self.boxes = {}
        # Of each name, and of each folder that is there, the marks and the names as keys.
        self.tags = {}
        self.inside = {}

    def add(self, name, folder="inbox", marks=None):
        check_new(name, self.boxes)
        self.tags[name] = {}
        if marks is not None:
            for word in marks:
                self.tags[name][word] = True
        self.put_in(name, folder)

    def take_out(self, name):
        check_there(name, self.boxes)
        self.put_out(name)
        self.tags.pop(name)

    def put_in(self, name, folder):
        self.boxes[name] = folder
        if folder not in self.inside:
            self.inside[folder] = {}
        self.inside[folder][name] = True

    # A folder that is empty is no longer there.
    def put_out(self, name):
        folder = self.boxes.pop(name)
        self.inside[folder].pop(name)
        if not self.inside[folder]:
            self.inside.pop(folder)

    def place(self, name, folder):
        check_there(name, self.boxes)
        self.put_out(name)
        self.put_in(name, folder)

    def mark(self, name, word):
        check_there(name, self.boxes)
        self.tags[name][word] = True

    def unmark(self, name, word):
        check_there(name, self.boxes)
        self.tags[name].pop(word, None)

    def folder(self, name):
        check_there(name, self.boxes)
        return self.boxes[name]

    def marks(self, name):
        check_there(name, self.boxes)
        return sorted(self.tags[name])

    def counts(self, folder):
        whole = len(self.inside.get(folder, {}))
        return (whole, whole - self.marked(folder, SEEN))

    def marked(self, folder, word):
        return len([name for name in self.inside.get(folder, {}) if word in self.tags[name]])

    def names(self, folder):
        return sorted(self.inside.get(folder, {}))

    def folders(self):
        told = []
        for folder in sorted(self.inside):
            counts = self.counts(folder)
            told.append((folder, counts[0], counts[1]))
        return told
