import random
import unittest

from helper import few_calls, random_tree
from mailroom.conditions import condition_of
from mailroom.errors import NoRule
from mailroom.reading import read_rules
from mailroom.rules import Rules

ANY = ("any",)
STOP = ("stop",)


class RulesCase(unittest.TestCase):

    def assert_read(self, text, rows):
        told = read_rules(text)
        self.assertIsInstance(told, Rules)
        self.assertEqual(told.rows(), rows, text)

    def assert_refused(self, text, row=1):
        try:
            told = read_rules(text)
        except NoRule as refusal:
            self.assertEqual(refusal.row, row, text)
        else:
            self.fail(f"{text!r} was read to {told.rows()!r}")


class ActsTest(RulesCase):

    def test_one_act(self):
        self.assert_read("if any then place home", [(ANY, (("place", "home"),))])
        self.assert_read("if any then mark seen", [(ANY, (("mark", "seen"),))])
        self.assert_read("if any then unmark seen", [(ANY, (("unmark", "seen"),))])
        self.assert_read("if any then stop", [(ANY, (STOP,))])

    def test_several_acts(self):
        acts = (("place", "home"), ("mark", "a"), ("unmark", "b"), STOP, ("place", "work"), STOP, ("mark", "a"))
        self.assert_read("if any then place home, mark a, unmark b, stop, place work, stop, mark a", [(ANY, acts)])

    def test_blanks_beside_commas_and_elsewhere(self):
        rows = [(ANY, (("place", "home"), STOP, ("mark", "a")))]
        for text in (
            "if any then place home,stop,mark a", "if any then place home , stop , mark a",
            "if any then place home ,stop ,mark a", "if any then place home, stop, mark a",
            "  if   any   then   place   home  ,   stop,   mark   a   ", "if(any)then place home,stop,mark a",
            "if((any))then   place home,stop,mark a ",
        ):
            self.assert_read(text, rows)

    def test_a_row_of_most_signs(self):
        text = "if any then stop" + ",mark a" * 283
        self.assertLess(1980, len(text))
        self.assert_read(text, [(ANY, (STOP,) + (("mark", "a"),) * 283)])

    def test_acts_that_are_none(self):
        for act in ("", "go", "place", "mark", "unmark", "stop home", "stop stop", "place home work", "mark a b",
                    "unmark a b", "Place home", "PLACE home", "Stop", "place Home", "place a-b", "mark " + "a" * 21,
                    "unmark a.", "placehome", "stop.", "any", "then", "then stop", "place (home)", "(place home)",
                    "(stop)", "stop()", "mark", "in home", "place\thome", "stop\t", "\tstop", "place home mark a",
                    "stop and stop", "not stop", "7"):
            self.assert_refused(f"if any then {act}")
            self.assert_refused(f"if any then {act}, stop")
            self.assert_refused(f"if any then stop, {act}")
            self.assert_refused(f"if any then stop, {act}, stop")

    def test_a_comma_too_many_at_each_place(self):
        pieces = "if not any then place home , mark seen , stop".split()
        read_rules(" ".join(pieces))
        for place in range(len(pieces) + 1):
            self.assert_refused(" ".join(pieces[:place] + [","] + pieces[place:]))

    def test_a_comma_that_lacks(self):
        self.assert_refused("if any then place home mark seen, stop")
        self.assert_refused("if any then place home, mark seen stop")


class ThenTest(RulesCase):

    def test_then_as_a_word_of_the_condition(self):
        for kind in ("word", "title", "from", "in", "marked"):
            self.assert_read(f"if {kind} then then stop", [((kind, "then"), (STOP,))])
            self.assert_read(f"if not {kind} then then stop", [(("not", (kind, "then")), (STOP,))])
            self.assert_read(f"if {kind} then and {kind} then then stop", [
                (("both", (kind, "then"), (kind, "then")), (STOP,))])
            self.assert_read(f"if ({kind} then)then stop", [((kind, "then"), (STOP,))])

    def test_then_as_a_word_of_an_act(self):
        for act in ("place", "mark", "unmark"):
            self.assert_read(f"if any then {act} then", [(ANY, ((act, "then"),))])
            self.assert_read(f"if any then {act} then, {act} then", [(ANY, ((act, "then"), (act, "then")))])
            self.assert_read(f"if word then then {act} then", [(("word", "then"), ((act, "then"),))])

    def test_then_that_is_no_word(self):
        self.assert_refused("if then then stop")
        self.assert_refused("if any then then stop")
        self.assert_refused("if any then stop then stop")
        self.assert_refused("if word then stop")
        self.assert_refused("if word then then then stop")
        self.assert_refused("if any and then stop")
        self.assert_refused("if word rent and then then stop")

    def test_other_words_of_the_language(self):
        for word in ("if", "stop", "place", "mark", "unmark", "and", "or", "not", "to", "any", "thread", "day", "in"):
            self.assert_read(f"if in {word} then place {word}, mark {word}, unmark {word}, stop", [
                (("in", word), (("place", word), ("mark", word), ("unmark", word), STOP))])


class RowsTest(RulesCase):

    ROWS = [(ANY, (STOP,)), (("in", "home"), (("mark", "a"), STOP))]

    def test_no_rules(self):
        for text in ("", " ", "    ", "\n", "\n\n\n", "  \n \n", "\n   "):
            self.assert_read(text, [])
            self.assertEqual(read_rules(text).written(), "")

    def test_several_rows(self):
        self.assert_read("if any then stop\nif in home then mark a, stop", self.ROWS)

    def test_rows_that_are_passed_over(self):
        for text in (
            "\nif any then stop\nif in home then mark a, stop", "if any then stop\n\nif in home then mark a, stop",
            "if any then stop\nif in home then mark a, stop\n",
            "\n\n   \nif any then stop\n \n\n  if in home then mark a,stop  \n  \n\n",
        ):
            self.assert_read(text, self.ROWS)

    def test_40_rows(self):
        rows = [(("in", f"box{k}"), (("mark", f"mark{k}"),)) for k in range(40)]
        text = "\n".join(f"if in box{k} then mark mark{k}" for k in range(40))
        self.assert_read(text, rows)
        self.assert_read(text.replace("\n", "\n  \n"), rows)

    def test_the_number_of_the_wrong_row(self):
        good = "if any then stop"
        for wrong in ("if any", "nothing", ",", "\t", "if any then", "if word A then stop"):
            self.assert_refused(wrong, 1)
            self.assert_refused(f"{good}\n{wrong}", 2)
            self.assert_refused(f"{wrong}\n{good}", 1)
            self.assert_refused(f"\n{wrong}", 2)
            self.assert_refused(f"\n  \n\n{wrong}\n{good}", 4)
            self.assert_refused(f"{good}\n\n{good}\n   \n{wrong}\n\n", 5)
            self.assert_refused("\n".join([good] * 39 + [wrong]), 40)
            self.assert_refused("\n" * 99 + wrong, 100)

    def test_the_first_of_several_wrong_rows(self):
        good = "if any then stop"
        self.assert_refused("if any\nnothing", 1)
        self.assert_refused(f"{good}\nif any\n{good}\nnothing", 2)
        self.assert_refused(f"\n{good}\n \nnothing\n\n{good}\nif any\n,", 4)

    def test_only_blanks_make_a_row_that_is_passed_over(self):
        for code in range(ord("!"), ord("~") + 1):
            self.assert_refused(chr(code))
            self.assert_refused(f"if any then stop\n  {chr(code)} ", 2)
        self.assert_refused("\t")
        self.assert_refused("\n \t ", 2)

    def test_a_row_does_not_go_on_in_the_next(self):
        self.assert_refused("if any\nthen stop", 1)
        self.assert_refused("if any then\nstop", 1)
        self.assert_refused("if any then stop,\nmark a", 1)
        self.assert_refused("if any then stop\n, mark a", 2)


class WrongRowsTest(RulesCase):

    def test_without_if(self):
        for text in ("any then stop", "then stop", "stop", "IF any then stop", "If any then stop", "ifany then stop",
                     "if", "when any then stop", "not if any then stop", "if if any then stop", "(if any) then stop",
                     "\tif any then stop"):
            self.assert_refused(text)

    def test_without_then(self):
        for text in ("if any stop", "if any", "if any place home", "if any, stop", "if any Then stop",
                     "if anythen stop", "if any thenstop", "if (any then stop)", "if any and stop"):
            self.assert_refused(text)

    def test_without_a_condition(self):
        for text in ("if then stop", "if () then stop", "if not then stop", "if , then stop"):
            self.assert_refused(text)

    def test_without_an_act(self):
        for text in ("if any then", "if any then ", "if any then ,", "if word then then"):
            self.assert_refused(text)

    def test_wrong_conditions(self):
        for text in ("before 0", "after 9999", "day 10000", "any any", "(any", "any)", "any and", "word", "word A",
                     "Any", "thread thread thread any", "not " * 30 + "any", "(" * 41 + "any" + ")" * 41,
                     " and ".join(["any"] * 31)):
            self.assert_refused(f"if {text} then stop")
            self.assert_refused(f"\nif any then stop\nif {text} then stop", 3)

    def test_conditions_at_the_bounds(self):
        for text in ("before 1", "after 9998", "thread thread any", "not " * 29 + "any", "(" * 40 + "any" + ")" * 40,
                     " and ".join(["any"] * 30)):
            self.assertEqual(len(read_rules(f"if {text} then stop").rows()), 1)

    def test_texts_cut_off_after_each_part(self):
        pieces = "if not ( any and day 5 to 7 ) then place home , mark seen".split()
        read_rules(" ".join(pieces))
        for end in range(1, len(pieces)):
            if pieces[end] != ",":
                self.assert_refused(" ".join(pieces[:end]))
            self.assert_refused(" ".join(pieces[end:]))

    def test_long_rows_with_few_calls(self):
        with few_calls():
            for text in ("if " + "(" * 1990, "if " + "not " * 490 + "any then stop", "if " * 600, "if any then " * 150,
                         "if " + "any and " * 240 + "any then stop", "if " + "thread " * 280, "," * 2000,
                         "if any then stop" + "," * 1980):
                self.assert_refused(text)
                self.assert_refused("\n" + text, 2)


class AgainTest(RulesCase):

    def random_rows(self, chance):
        words = ("home", "work", "then", "stop", "if", "a", "0", "z" * 20)
        rows = []
        for again in range(chance.randrange(0, 8)):
            acts = []
            for one in range(chance.randrange(1, 5)):
                kind = chance.choice(("place", "mark", "unmark", "stop"))
                acts.append(STOP if kind == "stop" else (kind, chance.choice(words)))
            rows.append((random_tree(chance, 5), tuple(acts)))
        return rows

    def test_what_is_written_of_what_was_read(self):
        text = "\n if not(word then)or before 5 then place home,mark a\n\n  if any   then stop\n"
        self.assertEqual(read_rules(text).written(), (
            "if (not word then or day 0 to 4) then place home, mark a\nif any then stop"))

    def test_what_is_written_is_read_to_the_same_rows(self):
        chance = random.Random(25)
        for again in range(500):
            rows = self.random_rows(chance)
            rules = Rules([(condition_of(tree), list(acts)) for tree, acts in rows])
            text = rules.written()
            self.assert_read(text, rows)
            self.assertEqual(read_rules(text).written(), text)


if __name__ == "__main__":
    unittest.main()
