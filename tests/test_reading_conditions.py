import functools
import itertools
import random
import re
import unittest

from helper import few_calls, random_tree, threads_within
from mailroom.conditions import Condition, condition_of
from mailroom.errors import NoRule
from mailroom.reading import read_condition

OWN_WORDS = """
any word title from day in marked answers not and or thread to before after if then place mark unmark stop both either
""".split()


@functools.lru_cache(maxsize=None)
def plain_leaf(pieces):
    """The tree that these pieces are without and, or, not, thread and brackets; None where they are none."""
    row = " ".join(pieces)
    if row in ("any", "answers"):
        return (row,)
    found = re.fullmatch("(word|title|from|in|marked) ([a-z0-9]{1,20})", row)
    if found:
        return found.groups()
    found = re.fullmatch("day ([0-9]{1,4})(?: to ([0-9]{1,4}))?", row)
    if found:
        return ("day", int(found[1]), int(found[2] or found[1]))
    found = re.fullmatch("(before|after) ([0-9]{1,4})", row)
    if found and found[1] == "before" and int(found[2]) >= 1:
        return ("day", 0, int(found[2]) - 1)
    if found and found[1] == "after" and int(found[2]) <= 9998:
        return ("day", int(found[2]) + 1, 9999)
    return None


@functools.lru_cache(maxsize=None)
def plain_tree(pieces, level="either"):
    """The same with them, by trying every place at which the pieces may part. Short rows only."""
    if level == "single":
        if pieces[:1] in (("not",), ("thread",)):
            inner = plain_tree(pieces[1:], "single")
            return inner and (pieces[0], inner)
        if pieces[:1] == ("(",) and pieces[-1:] == (")",):
            return plain_tree(pieces[1:-1])
        return plain_leaf(pieces)
    sign, lower = ("or", "both") if level == "either" else ("and", "single")
    for place in range(len(pieces) - 1, -1, -1):
        if pieces[place] == sign:
            left = plain_tree(pieces[:place], level)
            right = plain_tree(pieces[place + 1:], lower)
            if left and right:
                return (level, left, right)
    return plain_tree(pieces, lower)


def chain(sign, count):
    return f" {sign} ".join(["any"] * count)


class ReadingCase(unittest.TestCase):

    def assert_read(self, text, tree):
        told = read_condition(text)
        self.assertIsInstance(told, Condition)
        self.assertEqual(told.tree(), tree, text)

    def assert_refused(self, text):
        try:
            told = read_condition(text)
        except NoRule as refusal:
            self.assertEqual(refusal.row, 0, text)
        else:
            self.fail(f"{text!r} was read to {told.tree()!r}")

    def assert_as_plainly(self, pieces):
        tree = plain_tree(tuple(pieces))
        if tree and threads_within(tree) <= 2:
            self.assert_read(" ".join(pieces), tree)
        else:
            self.assert_refused(" ".join(pieces))


class LeavesTest(ReadingCase):

    def test_each(self):
        self.assert_read("any", ("any",))
        self.assert_read("answers", ("answers",))
        for kind in ("word", "title", "from", "in", "marked"):
            for word in ("rent", "a", "0", "0007", "z" * 20, "9" * 20, "a1b2"):
                self.assert_read(f"{kind} {word}", (kind, word))

    def test_the_languages_own_words(self):
        for kind in ("word", "title", "from", "in", "marked"):
            for word in OWN_WORDS:
                leaf = (kind, word)
                self.assert_read(f"{kind} {word}", leaf)
                self.assert_read(f"({kind} {word})", leaf)
                self.assert_read(f"not {kind} {word}", ("not", leaf))
                self.assert_read(f"{kind} {word} and any", ("both", leaf, ("any",)))
                self.assert_read(f"any or {kind} {word}", ("either", ("any",), leaf))
                self.assert_read(f"{kind} {word} or {kind} {word}", ("either", leaf, leaf))

    def test_own_words_one_behind_the_other(self):
        self.assert_read("word and and word and", ("both", ("word", "and"), ("word", "and")))
        self.assert_read("word or or word or or any", ("either", ("either", ("word", "or"), ("word", "or")), ("any",)))
        self.assert_read("in in and in in", ("both", ("in", "in"), ("in", "in")))
        self.assert_read("not word not and not any", ("both", ("not", ("word", "not")), ("not", ("any",))))
        self.assert_read("thread from thread", ("thread", ("from", "thread")))

    def test_words_that_are_none(self):
        for kind in ("word", "title", "from", "in", "marked"):
            for word in ("", "Rent", "renT", "a-b", "a_b", "a.", "z" * 21, "9" * 21, "a\tb", "\t", "a\n", "\na", "(",
                         ")", ","):
                self.assert_refused(f"{kind} {word}")
            self.assert_refused(f"{kind} a b")
            self.assert_refused(f"{kind} (a)")
            self.assert_refused(f"{kind}a")
        self.assert_refused("any a")
        self.assert_refused("answers a")

    def test_great_letters(self):
        for text in ("Any", "ANY", "Word a", "word A", "Not any", "any And any", "any OR any", "Day 5", "day 5 To 6",
                     "Thread any", "Answers", "Before 5", "After 5", "IN a"):
            self.assert_refused(text)

    def test_words_that_begin_no_condition(self):
        for text in ("to", "then", "if", "and", "or", "rent", "5", "place a", "mark a", "unmark a", "stop",
                     "both any any", "either any any", "xany", "anyx", "any.", "-any", "'any'"):
            self.assert_refused(text)


class DaysTest(ReadingCase):

    def test_days(self):
        self.assert_read("day 5", ("day", 5, 5))
        self.assert_read("day 0", ("day", 0, 0))
        self.assert_read("day 9999", ("day", 9999, 9999))
        self.assert_read("day 3 to 12", ("day", 3, 12))
        self.assert_read("day 0 to 9999", ("day", 0, 9999))
        self.assert_read("day 7 to 7", ("day", 7, 7))
        self.assert_read("day 12 to 3", ("day", 12, 3))
        self.assert_read("day 9999 to 0", ("day", 9999, 0))

    def test_before(self):
        self.assert_read("before 1", ("day", 0, 0))
        self.assert_read("before 2", ("day", 0, 1))
        self.assert_read("before 100", ("day", 0, 99))
        self.assert_read("before 9999", ("day", 0, 9998))
        for number in ("0", "00", "000", "0000"):
            self.assert_refused(f"before {number}")

    def test_after(self):
        self.assert_read("after 0", ("day", 1, 9999))
        self.assert_read("after 0000", ("day", 1, 9999))
        self.assert_read("after 99", ("day", 100, 9999))
        self.assert_read("after 9997", ("day", 9998, 9999))
        self.assert_read("after 9998", ("day", 9999, 9999))
        self.assert_refused("after 9999")

    def test_noughts_ahead(self):
        for text in ("7", "07", "007", "0007"):
            self.assert_read(f"day {text}", ("day", 7, 7))
            self.assert_read(f"day {text} to {text}", ("day", 7, 7))
            self.assert_read(f"before {text}", ("day", 0, 6))
            self.assert_read(f"after {text}", ("day", 8, 9999))

    def test_five_figures_and_more(self):
        for number in ("00007", "00000", "10000", "99999", "123456", "0" * 30, "9" * 1900):
            self.assert_refused(f"day {number}")
            self.assert_refused(f"day {number} to 5")
            self.assert_refused(f"day 5 to {number}")
            self.assert_refused(f"before {number}")
            self.assert_refused(f"after {number}")

    def test_what_is_no_number(self):
        for number in ("", "a", "-1", "+1", "1.0", "1_0", "0x1", "5a", "a5", "to", "and", "(", ")", "(5)", ",", "5,",
                       "5\n", "\t5"):
            self.assert_refused(f"day {number}")
            self.assert_refused(f"day 5 to {number}")
            self.assert_refused(f"day {number} to 5")
            self.assert_refused(f"before {number}")
            self.assert_refused(f"after {number}")

    def test_parts_that_lack_or_are_too_many(self):
        for text in ("day", "day to", "day to 5", "day 5 to", "day 5 to 6 to 7", "day 5 6", "day 5 to 6 7", "before",
                     "after", "before 5 to 6", "after 5 to 6", "before 5 6", "day 5 and 6", "day 5to 6", "day 5 to6",
                     "day5", "day(5)"):
            self.assert_refused(text)

    def test_within_others(self):
        self.assert_read("day 5 and day 6", ("both", ("day", 5, 5), ("day", 6, 6)))
        self.assert_read("day 5 to 6 or before 3", ("either", ("day", 5, 6), ("day", 0, 2)))
        self.assert_read("not day 5 to 6 and after 3", ("both", ("not", ("day", 5, 6)), ("day", 4, 9999)))


class BlanksTest(ReadingCase):

    def test_many_blanks(self):
        self.assert_read("   any   ", ("any",))
        self.assert_read("  word    rent ", ("word", "rent"))
        self.assert_read(" day   5    to   7 ", ("day", 5, 7))
        self.assert_read("  not   thread    any ", ("not", ("thread", ("any",))))
        self.assert_read("any    and    answers", ("both", ("any",), ("answers",)))
        self.assert_read(" " * 900 + "any" + " " * 900, ("any",))

    def test_none_needed_beside_brackets(self):
        self.assert_read("(any)", ("any",))
        self.assert_read("not(any)", ("not", ("any",)))
        self.assert_read("thread(any)", ("thread", ("any",)))
        self.assert_read("(any)and(answers)", ("both", ("any",), ("answers",)))
        self.assert_read("(any)or(answers)", ("either", ("any",), ("answers",)))
        self.assert_read("((any)and not(answers))or(word rent)", (
            "either", ("both", ("any",), ("not", ("answers",))), ("word", "rent")))
        self.assert_read("any and(day 5 to 6)", ("both", ("any",), ("day", 5, 6)))

    def test_blanks_beside_brackets(self):
        self.assert_read("  (  any  )  ", ("any",))
        self.assert_read("not  (  (  any )  and answers  )", ("not", ("both", ("any",), ("answers",))))

    def test_blanks_that_lack(self):
        for text in ("notany", "threadany", "wordrent", "anyand any", "any andany", "any orany", "(any)andany",
                     "not(any)andany"):
            self.assert_refused(text)

    def test_tabs_line_feeds_and_commas(self):
        for text in ("any\n", "\nany", "any\t", "\tany", "word\trent", "word\nrent", "any\nand any", "any\tand\tany",
                     "not\tany", "any,", ",any", ",", "any, any", "word a,b", "any , and any", "(any,)", "day 5, 6",
                     "\n", "\t", "any\n\n", "(\tany)", "(any\n)"):
            self.assert_refused(text)

    def test_no_pieces(self):
        for text in ("", " ", "     ", "()", "( )", "(())"):
            self.assert_refused(text)


class BindingTest(ReadingCase):

    def test_and_binds_more_closely(self):
        a, b, c, d = [("in", word) for word in "abcd"]
        both = lambda one, other: ("both", one, other)
        either = lambda one, other: ("either", one, other)
        for text, tree in (
            ("a and b and c", both(both(a, b), c)),
            ("a or b or c", either(either(a, b), c)),
            ("a and b or c", either(both(a, b), c)),
            ("a or b and c", either(a, both(b, c))),
            ("a and b and c and d", both(both(both(a, b), c), d)),
            ("a or b or c or d", either(either(either(a, b), c), d)),
            ("a or b and c or d", either(either(a, both(b, c)), d)),
            ("a and b or c and d", either(both(a, b), both(c, d))),
            ("a or b or c and d", either(either(a, b), both(c, d))),
            ("a and b or c or d", either(either(both(a, b), c), d)),
            ("a or b and c and d", either(a, both(both(b, c), d))),
            ("a and b and c or d", either(both(both(a, b), c), d)),
            ("a and (b or c) and d", both(both(a, either(b, c)), d)),
            ("a and (b and (c and d))", both(a, both(b, both(c, d)))),
            ("a or (b or c) or d", either(either(a, either(b, c)), d)),
            ("(a or b) and (c or d)", both(either(a, b), either(c, d))),
        ):
            self.assert_read(re.sub(r"\b([abcd])\b", r"in \1", text), tree)

    def test_not_and_thread_bind_more_closely_than_both(self):
        a, b, c = [("in", word) for word in "abc"]
        for kind in ("not", "thread"):
            for sign, form in (("and", "both"), ("or", "either")):
                self.assert_read(f"{kind} in a {sign} in b", (form, (kind, a), b))
                self.assert_read(f"in a {sign} {kind} in b", (form, a, (kind, b)))
                self.assert_read(f"{kind} (in a {sign} in b)", (kind, (form, a, b)))
                self.assert_read(f"{kind} in a {sign} {kind} in b {sign} {kind} in c", (
                    form, (form, (kind, a), (kind, b)), (kind, c)))
        self.assert_read("not thread in a and in b or thread not in c", (
            "either", ("both", ("not", ("thread", a)), b), ("thread", ("not", c))))

    def test_every_mixture_of_three_and_four(self):
        for count in (2, 3):
            for signs in itertools.product(("and", "or"), repeat=count):
                for heads in itertools.product((("any",), ("not", "any"), ("thread", "any")), repeat=count + 1):
                    pieces = list(heads[0])
                    for sign, head in zip(signs, heads[1:]):
                        pieces += [sign] + list(head)
                    self.assert_as_plainly(pieces)

    def test_brackets_about_any_condition(self):
        for text, tree in (
            ("any", ("any",)), ("word rent", ("word", "rent")), ("day 5 to 7", ("day", 5, 7)),
            ("before 5", ("day", 0, 4)), ("not any", ("not", ("any",))), ("thread any", ("thread", ("any",))),
            ("any and answers", ("both", ("any",), ("answers",))),
            ("any or answers", ("either", ("any",), ("answers",))),
        ):
            for count in (1, 2, 3, 10, 39):
                self.assert_read("(" * count + text + ")" * count, tree)
            self.assert_read(f"not (({text}))", ("not", tree))
            self.assert_read(f"(({text})) and any", ("both", tree, ("any",)))

    def test_brackets_that_lack_or_are_too_many(self):
        for text in ("(any", "any)", "((any)", "(any))", ")any(", "(any))(", "any (", "any )", "(any)(any)",
                     "any (any)", "(any) any", "(any and) any", "any (and any)", "(not) any", "not ()", "(any",
                     "any and (any", "day (5)", "word (rent)", "(word) rent", "[any]", "{any}"):
            self.assert_refused(text)


class PiecesTest(ReadingCase):

    def test_all_short_rows_of_some_pieces(self):
        for pieces in (("any", "word", "and", "or", "not", "(", ")"), ("day", "to", "7", "before", "any", "or"),
                       ("in", "not", "thread", "and", "answers")):
            for length in range(6):
                for row in itertools.product(pieces, repeat=length):
                    self.assert_as_plainly(row)

    def test_texts_cut_off_after_each_part(self):
        for text in (
            "not ( any and word rent ) or thread ( day 5 to 7 and before 9 ) and in home or marked seen and answers",
            "thread not ( title pay or ( from ann and after 7 ) )", "word and and word or or word not",
        ):
            pieces = text.split(" ")
            for end in range(len(pieces)):
                self.assert_as_plainly(pieces[:end])
                self.assert_as_plainly(pieces[end:])
                self.assert_as_plainly(pieces[:end] + pieces[end + 1:])
                for more in ("any", "and", "not", ")", "(", "rent", ",", "7"):
                    self.assert_as_plainly(pieces[:end] + [more] + pieces[end:])

    def test_parts_too_many(self):
        for text in ("any any", "any and and any", "any or or any", "any and or any", "any not", "any thread any",
                     "any not any", "not", "thread", "not not", "and any", "or any", "any and", "any or",
                     "not and any", "any then", "if any", "any then stop", "if any then stop", "word rent rent",
                     "answers answers"):
            self.assert_refused(text)


class AgainTest(ReadingCase):

    def loosely(self, chance, tree, around="either"):
        """A text of the tree, with brackets that are needed, others by chance, and blanks by chance."""
        blank = " " * chance.choice((1, 1, 1, 2, 5))
        kind = tree[0]
        if kind in ("not", "thread"):
            text = kind + blank + self.loosely(chance, tree[1], "single")
        elif kind == "both":
            parts = (self.loosely(chance, tree[1], "both"), "and", self.loosely(chance, tree[2], "single"))
            text = blank.join(parts)
        elif kind == "either":
            parts = (self.loosely(chance, tree[1], "either"), "or", self.loosely(chance, tree[2], "both"))
            text = blank.join(parts)
        elif kind == "day":
            text = chance.choice(self.days(tree[1], tree[2])).replace(" ", blank)
        else:
            text = blank.join(tree)
        tight = ["either", "both", "single"]
        own = kind if kind in tight else "single"
        if tight.index(own) < tight.index(around) or chance.random() < 0.1:
            text = chance.choice(("(", "( ")) + text + chance.choice((")", " )"))
        return text

    def days(self, first, last):
        texts = [f"day {first} to {last}", f"day {first:04} to {last:03}"]
        if first == last:
            texts += [f"day {first}", f"day {first:02}"]
        if first == 0 and last < 9999:
            texts.append(f"before {last + 1}")
        if last == 9999 and first > 0:
            texts.append(f"after {first - 1}")
        return texts

    def test_what_is_written_is_read_to_the_same_tree(self):
        chance = random.Random(23)
        for again in range(1000):
            tree = random_tree(chance, 9)
            text = condition_of(tree).written()
            self.assert_read(text, tree)
            self.assertEqual(read_condition(text).written(), text)

    def test_texts_with_few_brackets_and_many_blanks(self):
        chance = random.Random(24)
        for again in range(2000):
            tree = random_tree(chance, 7)
            text = self.loosely(chance, tree)
            self.assert_read(text, tree)
            self.assert_read(" " + text + "  ", tree)

    def test_what_is_read_holds_as_its_tree(self):
        self.assertEqual(read_condition("before 5 and not answers").written(), "(day 0 to 4 and not answers)")


class DeepTest(ReadingCase):

    def test_deep_by_not(self):
        for count in (1, 28, 29):
            self.assertEqual(read_condition("not " * count + "any").written(), "not " * count + "any")
        for count in (30, 31, 39, 40, 41):
            self.assert_refused("not " * count + "any")

    def test_deep_by_chains(self):
        for sign, form in (("and", "both"), ("or", "either")):
            for count in (2, 29, 30):
                tree = ("any",)
                for again in range(count - 1):
                    tree = (form, tree, ("any",))
                self.assert_read(chain(sign, count), tree)
            for count in (31, 32, 60, 200):
                self.assert_refused(chain(sign, count))

    def test_deep_to_the_right_by_brackets(self):
        for sign in ("and", "or"):
            for count, read in ((29, True), (30, False)):
                text = f"any {sign} (" * (count - 1) + f"any {sign} any" + ")" * (count - 1)
                if read:
                    self.assertEqual(read_condition(text).written(), "(" + text + ")")
                else:
                    self.assert_refused(text)

    def test_deep_in_mixtures(self):
        self.assert_read("not (" + chain("and", 29) + ")", ("not", read_condition(chain("and", 29)).tree()))
        self.assert_refused("not (" + chain("and", 30) + ")")
        self.assert_refused("any or " + chain("and", 30))
        self.assert_refused(chain("and", 30) + " or any")
        self.assert_refused("any or " + "not " * 29 + "any")
        read_condition("any or " + "not " * 28 + "any")
        read_condition(chain("and", 15) + " and " + "not " * 28 + "any")
        self.assert_refused(chain("and", 15) + " and " + "not " * 29 + "any")
        read_condition("(" + chain("and", 28) + " or any) or any")
        self.assert_refused("((" + chain("and", 28) + " or any) or any) or any")

    def test_leaves_are_1_deep_whatever_their_words(self):
        for leaf in ("day 5 to 7", "word rent", "before 5", "answers"):
            read_condition("not " * 29 + leaf)
            self.assert_refused("not " * 30 + leaf)

    def test_brackets_do_not_make_it_deeper(self):
        read_condition("(((" + chain("and", 30) + ")))")
        read_condition("(" * 11 + "not " * 29 + "any" + ")" * 11)


class WithinTest(ReadingCase):

    def test_40_brackets(self):
        for count in (39, 40):
            self.assert_read("(" * count + "any" + ")" * count, ("any",))
        for count in (41, 42, 100, 900):
            self.assert_refused("(" * count + "any" + ")" * count)

    def test_40_of_brackets_not_and_thread(self):
        for heads in ("not " * 29, "not ", "thread thread ", "thread not thread ", "not thread "):
            count = len(heads.split())
            for brackets, read in ((40 - count, True), (41 - count, False)):
                for text in (
                    "(" * brackets + heads + "any" + ")" * brackets, heads + "(" * brackets + "any" + ")" * brackets,
                    "(" + heads + "(" * (brackets - 1) + "any" + ")" * brackets,
                ):
                    if read:
                        self.assertEqual(read_condition(text).written(), heads + "any")
                    else:
                        self.assert_refused(text)

    def test_each_between_the_others(self):
        self.assertEqual(read_condition("not (" * 20 + "any" + ")" * 20).written(), "not " * 20 + "any")
        self.assert_refused("not (" * 20 + "not any" + ")" * 20)
        self.assert_refused("not (" * 20 + "(any)" + ")" * 20)
        self.assert_refused("not (" * 20 + "thread any" + ")" * 20)
        self.assert_refused("(" * 40 + "not any" + ")" * 40)
        self.assert_refused("(" * 40 + "thread any" + ")" * 40)

    def test_those_beside_one_another_do_not_count(self):
        row = "(" * 40 + "any" + ")" * 40
        read_condition(f"{row} and {row} or {row}")
        self.assert_refused(f"({row} and any)")
        self.assert_refused(f"any and ({row})")
        read_condition(" and ".join(["not (not any)"] * 25))
        read_condition("(" * 39 + "(any) and (any)" + ")" * 39)
        self.assert_refused("(" * 39 + "(any) and ((any))" + ")" * 39)

    def test_words_are_not_counted(self):
        read_condition("(" * 40 + "word not and word thread" + ")" * 40)

    def test_two_threads(self):
        for text in ("thread any", "thread thread any", "thread not thread any", "thread (any and thread any)",
                     "thread (thread any or thread any)", "not thread (not thread not any)",
                     "thread thread word thread", "thread thread any and thread thread any",
                     " and ".join(["thread any"] * 10), "(thread any) and (thread (thread any))"):
            read_condition(text)

    def test_three_threads(self):
        for text in ("thread thread thread any", "thread not thread not thread any",
                     "thread (any and thread (any or thread any))", "thread(thread(thread any))",
                     "any or thread thread thread any", "not thread thread not thread any",
                     "thread (thread any or thread thread any)", "thread thread any and thread thread thread any",
                     "thread thread thread thread any"):
            self.assert_refused(text)

    def test_at_the_bounds_with_few_calls(self):
        with few_calls():
            read_condition("(" * 40 + chain("and", 30) + ")" * 40)
            read_condition("(" * 11 + "not " * 29 + "any" + ")" * 11)
            read_condition("(any and " * 29 + "any" + ")" * 29)

    def test_long_texts_with_few_calls(self):
        with few_calls():
            for text in ("(" * 2000, "not " * 500, "thread " * 285, ")" * 2000, chain("and", 250), chain("or", 285),
                         "(any and " * 220, "not(" * 500, "a" * 2000, "word " * 400, "any " * 500, "," * 2000,
                         " " * 2000, "and " * 500):
                self.assert_refused(text)

    def test_wide_texts(self):
        wide = " or ".join(["in a and in b and in c"] * 28)
        self.assertEqual(read_condition(wide).written().count("in a"), 28)
        text = "in a"
        while len(text) * 2 + 7 <= 2000:
            text = f"({text} or {text})"
        self.assertEqual(read_condition(text).written(), text)


if __name__ == "__main__":
    unittest.main()
