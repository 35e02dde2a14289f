"""Points 13 and 2 (e): plans written, and read again; and point 3 of these."""

import itertools

from newnames import texts
from newnames.plans import Plan
from newnames.texts import read, written
from tests.helpers import BAD_TEXTS, Case, raw_plans

PAIRS = [("a", "b"), ("b", "a"), ("c", None), ("d", "d"), ("e", "abcdefgh"), ("f", None)]
ROWS = ["a b", "b a", "c -", "d d", "e abcdefgh", "f -"]

# Rows that are of another form; all are made of promised signs.
BAD_ROWS = ("", " ", "a", "a ", " a", "-", "a  b", " a b", "a b ", "a b c", "a - -", "a\tb",
            "a\t-", "a b\t", "\ta b", "A b", "a B", "a b1", "a1 b", "- a", "- -", "a --", "a None",
            "a -b", "abcdefghi a", "a abcdefghi", "a,b", "a=b", "a ->", "begin", "move a b",
            "drop a b", "a b\r", "a ~", "# a b", "a -\t", "a  -", "a - ")


def text_of(rows):
    return "".join(row + "\n" for row in rows)


class Writing(Case):

    def test_they_are_defined_in_their_file(self):
        self.assertEqual(texts.written.__module__, "newnames.texts")
        self.assertEqual(texts.read.__module__, "newnames.texts")

    def test_the_plan_without_pairs(self):
        self.assertEqual(written(Plan([])), "")

    def test_one_pair(self):
        self.assertEqual(written(Plan([("a", "b")])), "a b\n")
        self.assertEqual(written(Plan([("a", None)])), "a -\n")
        self.assertEqual(written(Plan([("a", "a")])), "a a\n")

    def test_pairs_rise_by_old(self):
        for mixed in itertools.permutations(PAIRS):
            self.assertEqual(written(Plan(list(mixed))), text_of(ROWS))
        self.assertEqual(written(Plan([("b", "x"), ("ab", "z"), ("a", "y")])),
                         "a y\nab z\nb x\n")

    def test_names_that_are_words_of_a_log(self):
        pairs = [("begin", "plan"), ("drop", "begin"), ("move", None), ("plan", "move")]
        text = "begin plan\ndrop begin\nmove -\nplan move\n"
        self.assertEqual(written(Plan(pairs)), text)
        self.assertEqual(read(text).pairs(), pairs)


class Reading(Case):

    def test_the_empty_text(self):
        self.assertIs(type(read("")), Plan)
        self.assertEqual(read("").pairs(), [])

    def test_rows_in_any_order(self):
        for mixed in itertools.permutations(ROWS):
            plan = read(text_of(mixed))
            self.assertIs(type(plan), Plan)
            self.assertEqual(plan.pairs(), PAIRS)

    def test_what_is_written_is_read_as_the_same_plan(self):
        for pairs in raw_plans("abc", "abcd"):
            plan = read(written(Plan(pairs)))
            self.assertEqual(plan.pairs(), pairs)
            self.assertEqual(plan.rings(), Plan(pairs).rings())
            self.assertEqual(written(plan), written(Plan(pairs)))

    def test_a_name_may_be_old_and_new(self):
        self.assertEqual(read("a b\nb c\n").pairs(), [("a", "b"), ("b", "c")])
        self.assertEqual(read("b b\na c\n").pairs(), [("a", "c"), ("b", "b")])

    def test_many_may_be_let_go(self):
        self.assertEqual(read("c -\na -\nb -\n").pairs(), [("a", None), ("b", None), ("c", None)])

    def test_many_rows(self):
        names = [one + two + three for one in "abcdefghij" for two in "abcdefghij"
                 for three in "abcdefghijklmnopqrst"]
        pairs = list(zip(names, names[1:] + names[:1]))
        self.assertEqual(read(written(Plan(pairs))).pairs(), pairs)


class Refusals(Case):

    def test_a_row_of_another_form_in_each_place(self):
        for bad in BAD_ROWS:
            for at in range(len(ROWS) + 1):
                self.assert_no_row(at, read, text_of(ROWS[:at] + [bad] + ROWS[at:]))

    def test_of_several_the_first_row(self):
        self.assert_no_row(1, read, "a b\na\nc\n")
        self.assert_no_row(1, read, "a b\na c\nc\n")
        self.assert_no_row(1, read, "a b\nc\na c\n")
        self.assert_no_row(0, read, "\n\n\n")

    def test_words_that_are_no_names(self):
        for bad in BAD_TEXTS:
            if "\n" not in bad:
                self.assert_no_row(0, read, f"{bad} b\n")
                self.assert_no_row(1, read, f"b a\n{bad} -\n")
                if bad != "-":
                    self.assert_no_row(2, read, f"b a\nc -\na {bad}\n")

    def test_an_old_name_that_a_row_ahead_has(self):
        self.assert_no_row(1, read, "a b\na c\n")
        self.assert_no_row(1, read, "a b\na b\n")
        self.assert_no_row(1, read, "a -\na -\n")
        self.assert_no_row(2, read, "a -\nb c\na d\n")
        self.assert_no_row(3, read, "c b\na a\nd -\na -\nd -\n")

    def test_a_new_name_that_a_row_ahead_has(self):
        self.assert_no_row(1, read, "a b\nc b\n")
        self.assert_no_row(2, read, "a b\nc -\nb b\n")
        self.assert_no_row(1, read, "a a\nb a\nb c\n")

    def test_the_last_row_without_a_line_end(self):
        self.assert_no_row(0, read, "a b")
        self.assert_no_row(0, read, "a -")
        for many in range(1, len(ROWS) + 1):
            self.assert_no_row(many - 1, read, text_of(ROWS[:many])[:-1])

    def test_a_row_ahead_comes_ahead_of_the_last_one_without_a_line_end(self):
        self.assert_no_row(0, read, "a\nb c")
        self.assert_no_row(1, read, "a b\na c\nb d")
        self.assert_no_row(1, read, "a b\n\nb d")
        self.assert_no_row(1, read, "a b\na c")
        self.assert_no_row(1, read, "a b\nb")
        self.assert_no_row(1, read, "a b\n ")

    def test_texts_without_a_row(self):
        for bad in BAD_ROWS:
            if bad:
                self.assert_no_row(0, read, bad)
        self.assert_no_row(0, read, "\n")
        self.assert_no_row(0, read, "\r\n")
        self.assert_no_row(0, read, "\na b\n")

    def test_empty_rows_at_the_end(self):
        self.assert_no_row(1, read, "a b\n\n")
        self.assert_no_row(1, read, "a b\n\n\n")

    def test_other_line_ends(self):
        self.assert_no_row(0, read, "a b\r\nb c\r\n")
        self.assert_no_row(0, read, "a b\rb c\r")


class Kept(Case):
    """Point 3 of texts: what is handed in, and what is told."""

    def test_a_plan_that_is_handed_in_stays_as_it_is(self):
        plan = Plan(PAIRS)
        written(plan)
        self.assertEqual(plan.pairs(), PAIRS)

    def test_lists_of_a_plan_that_is_read_are_the_askers_own(self):
        text = text_of(ROWS)
        plan = read(text)
        plan.pairs().clear()
        plan.olds().append("x")
        plan.news().clear()
        plan.rings().clear()
        self.assertEqual(plan.pairs(), PAIRS)
        self.assertEqual(plan.rings(), [("a", "b")])
        self.assertEqual(read(text).pairs(), PAIRS)
