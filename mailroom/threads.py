"""Threads: names, each with the name that it answers, and which of them hang together."""

from mailroom.names import check_new, check_there


class Threads:

    def __init__(self):
        self.links = {}
        # Of each name that is answered, there or not, the names there that answer it, as keys.
        self.replies = {}

    def add(self, name, answers=""):
        check_new(name, self.links)
        self.links[name] = answers
        if answers != "":
            if answers not in self.replies:
                self.replies[answers] = {}
            self.replies[answers][name] = True

    def take_out(self, name):
        check_there(name, self.links)
        answers = self.links.pop(name)
        if answers != "":
            self.replies[answers].pop(name)

    def names(self):
        return sorted(self.links)

    def answers_to(self, name):
        return sorted(self.replies.get(name, {}))

    # The names one step from this one. Names that are answered but are not there are steps, too: by such a one
    # all those hang together that answer it.
    def beside(self, name):
        near = list(self.replies.get(name, {}))
        answers = self.links.get(name, "")
        if answers != "":
            near.append(answers)
        return near

    def thread(self, name):
        check_there(name, self.links)
        reached = {name: True}
        waiting = [name]
        while waiting:
            here = waiting.pop()
            for near in self.beside(here):
                if near not in reached:
                    reached[near] = True
                    waiting.append(near)
        return sorted([near for near in reached if near in self.links])

    def threads(self):
        told = []
        met = {}
        # The names rise, so each thread is come to by its first name, and the threads rise by these.
        for name in self.names():
            if name not in met:
                whole = self.thread(name)
                told.append(whole)
                for near in whole:
                    met[near] = True
        return told

    def depth(self, name):
        check_there(name, self.links)
        met = {name: True}
        above = self.links[name]
        while above in self.links and above not in met:
            met[above] = True
            above = self.links[above]
        return len(met) - 1
