"""Rules: rows of a condition and acts, run on a card."""

from mailroom.cards import Card

STOP = ("stop",)


# All acts of a row are done on one folder and one dict of marks: a card for each act would sort the marks each time.
def card_behind(card, acts):
    folder = card.box
    marks = {}
    for word in card.signs:
        marks[word] = True
    for act in acts:
        if act == STOP:
            break
        if act[0] == "place":
            folder = act[1]
        elif act[0] == "mark":
            marks[act[1]] = True
        else:
            marks.pop(act[1], None)
    return Card(card.letter, folder, list(marks))


def row_written(condition, acts):
    asked = condition.written()
    done = ", ".join([" ".join(act) for act in acts])
    return f"if {asked} then {done}"


class Rules:

    def __init__(self, rows):
        self.kept = [(condition, tuple(acts)) for condition, acts in rows]

    def rows(self):
        return [(condition.tree(), acts) for condition, acts in self.kept]

    # The card as it is in the end, and the places of the rows that were met.
    def run(self, card, others):
        places = []
        for place, row in enumerate(self.kept):
            if row[0].holds(card, others):
                places.append(place)
                card = card_behind(card, row[1])
                if STOP in row[1]:
                    break
        return (card, places)

    def outcome(self, card, others):
        end = self.run(card, others)[0]
        return (end.box, list(end.signs))

    def met(self, card, others):
        return self.run(card, others)[1]

    def written(self):
        return "\n".join([row_written(condition, acts) for condition, acts in self.kept])
