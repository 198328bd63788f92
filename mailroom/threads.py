"""Threads: names, each with the name that it answers, and which of them hang together."""

from mailroom.errors import NoName


class Threads:

    def __init__(self):
        self.links = {}
        # Of each name that is answered, there or not, the names there that answer it, as keys.
        self.replies = {}

    def check_there(self, name):
        if name not in self.links:
            raise NoName(f"{name!r} is not there")

    def add(self, name, answers=""):
        # What is no text is never there, so it can't come to be there.
        if not isinstance(name, str) or name in self.links:
            raise NoName(f"{name!r} can't be added")
        self.links[name] = answers
        if answers != "":
            if answers not in self.replies:
                self.replies[answers] = {}
            self.replies[answers][name] = True

    def take_out(self, name):
        self.check_there(name)
        answers = self.links.pop(name)
        if answers != "":
            self.replies[answers].pop(name)

    def names(self):
        return sorted(self.links)

    def answers_to(self, name):
        return sorted(self.replies.get(name, {}))

    # The names one step from this one. Names that are answered but are not there are steps, too: by such a one
    # all those hang together that answer it.
    def beside(self, name):
        near = list(self.replies.get(name, {}))
        answers = self.links.get(name, "")
        if answers != "":
            near.append(answers)
        return near

    def thread(self, name):
        self.check_there(name)
        reached = {name: True}
        waiting = [name]
        while waiting:
            here = waiting.pop()
            for near in self.beside(here):
                if near not in reached:
                    reached[near] = True
                    waiting.append(near)
        return sorted([near for near in reached if near in self.links])

    def threads(self):
        told = []
        met = {}
        # The names rise, so each thread is come to by its first name, and the threads rise by these.
        for name in self.names():
            if name not in met:
                whole = self.thread(name)
                told.append(whole)
                for near in whole:
                    met[near] = True
        return told

    def depth(self, name):
        self.check_there(name)
        met = {name: True}
        above = self.links[name]
        while above in self.links and above not in met:
            met[above] = True
            above = self.links[above]
        return len(met) - 1
