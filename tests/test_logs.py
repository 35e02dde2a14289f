"""Point 12: logs with a row that can't stand, and that they change nothing."""

from newnames.deeds import deeds
from newnames.errors import LetGo
from newnames.plans import Plan
from newnames.shelves import Shelf
from newnames.works import begun, gone_back, gone_on
from tests.helpers import BAD_TEXTS, RING, Case, ended, head_of, named_things, raw_rings
from tests.test_texts import BAD_ROWS

# A plan of each kind of pair, on "abcdeg".
PAIRS = RING + [("c", "c"), ("d", "e"), ("e", "f"), ("g", None)]
HEAD = ["plan s", "a b", "b a", "c c", "d e", "e f", "g -", "begin"]


def whole_log(pairs, names, *spare):
    work = begun(Shelf(named_things(names)), Plan(pairs), *spare)
    ended(work)
    return work.log()


def swapped(rows, one, other):
    rows = list(rows)
    rows[one], rows[other] = rows[other], rows[one]
    return rows


def pair_told(row):
    """The pair that a row tells; None where it is of another form."""
    words = row.split(" ")
    if len(words) != 2 or not all(1 <= len(word) <= 8 for word in words):
        return None
    if set(words[0]) - set("abcdefghijklmnopqrstuvwxyz"):
        return None
    if words[1] == "-":
        return words[0], None
    return None if set(words[1]) - set("abcdefghijklmnopqrstuvwxyz") else tuple(words)


def first_that_cannot_stand(log):
    """The number of that row, None where all can stand: told by the words of the point."""
    if not log or log[0] != "plan" and (log[0][:5] != "plan " or not pair_told(log[0])
                                        or log[0] == "plan -"):
        return 0
    spare, pairs, begin = log[0][5:], [], 1
    while begin < len(log) and log[begin] != "begin":
        pair = pair_told(log[begin])
        if pair is None or spare in pair:
            return begin
        if pair[0] in [old for old, new in pairs]:
            return begin
        if pair[1] is not None and pair[1] in [new for old, new in pairs]:
            return begin
        pairs.append(pair)
        begin += 1
    if begin == len(log) or raw_rings(pairs) and not spare:
        return begin
    # Where all old names and no others are held, every plan that needs no more fits.
    todo = deeds(Plan(pairs), [old for old, new in pairs], *[spare] * bool(spare))
    rows = [" ".join(deed) for deed in todo]
    for number, row in enumerate(log[begin + 1:]):
        if rows[number:number + 1] != [row]:
            return begin + 1 + number
    return None


class Logs(Case):

    def assert_cannot_stand(self, row, log, names="abcdeg"):
        """Refused by both, and neither the shelf nor the log has changed."""
        things, before = named_things(names), list(log)
        for call in (gone_on, gone_back):
            shelf = Shelf(things)
            self.assert_no_row(row, call, shelf, log)
            self.assertEqual(shelf.told(), things)
            self.assertEqual(log, before)

    def assert_stands(self, log, names="abcdeg"):
        self.assertEqual(gone_on(Shelf(named_things(names)), log).log(), log)


class FirstRow(Logs):

    def test_a_log_without_rows(self):
        self.assert_cannot_stand(0, [])
        self.assert_cannot_stand(0, [], "")

    def test_it_is_as_told(self):
        for row in ("plan", "plan s", "plan t", "plan plan", "plan begin", "plan abcdefgh"):
            self.assert_stands([row, "begin"])
            self.assert_stands([row, "a b", "begin"])

    def test_it_is_of_another_form(self):
        for row in ("", "Plan", "plans", "plan ", " plan", "plan  s", "plan s ", "plan s t",
                    "plan\ts", "plan\t", "plan\n", "plan s\n", "plan -", "plan S", "plan s1",
                    "plan abcdefghi", "plans s", "pla s", "begin", "begin s", "a b", "move a b",
                    "drop a", "plan None", " ", "\t", "plan: s", "s plan", "s"):
            self.assert_cannot_stand(0, [row])
            self.assert_cannot_stand(0, [row, "begin"])
            self.assert_cannot_stand(0, [row, "a b", "begin", "move a b"])
        for bad in BAD_TEXTS:
            self.assert_cannot_stand(0, [f"plan {bad}", *HEAD[1:]])

    def test_it_is_left_out_or_put_elsewhere(self):
        log = whole_log(PAIRS, "abcdeg", "s")
        self.assert_cannot_stand(0, log[1:])
        self.assert_cannot_stand(0, log[::-1])
        for at in range(1, len(log)):
            self.assert_cannot_stand(0, swapped(log, 0, at))
            self.assert_cannot_stand(0, [log[at], *log])

    def test_it_is_put_twice(self):
        # As a pair's row it tells of the spare name; without one it is of another form.
        self.assert_cannot_stand(1, ["plan s", "plan s", "a b", "begin"])
        self.assert_cannot_stand(1, ["plan", "plan", "a b", "begin"])

    def test_it_comes_ahead_of_all_others(self):
        self.assert_cannot_stand(0, ["plan S", "a", "begin", "x"])
        self.assert_cannot_stand(0, ["a b"])


class PairsRows(Logs):

    def test_in_any_order(self):
        for one in range(1, 7):
            for other in range(1, 7):
                self.assert_stands(swapped(HEAD, one, other))

    def test_a_row_of_another_form_in_each_place(self):
        for bad in BAD_ROWS:
            if bad != "begin":
                for at in range(1, len(HEAD)):
                    self.assert_cannot_stand(at, HEAD[:at] + [bad] + HEAD[at:])
                    self.assert_cannot_stand(at, HEAD[:at] + [bad] + HEAD[at + 1:])
        for bad in ("a b\n", "\na b", "a\nb", "h i\nj k"):
            self.assert_cannot_stand(1, ["plan", bad, "begin"])

    def test_a_spare_name_that_a_row_tells_of(self):
        for row in ("s s", "s h", "s -", "h s"):
            for at in range(1, len(HEAD)):
                self.assert_cannot_stand(at, HEAD[:at] + [row] + HEAD[at:])
            self.assert_stands(["plan t", row, "begin"])
            self.assert_stands(["plan", row, "begin"])

    def test_none_is_no_spare_name(self):
        self.assert_stands(["plan", "a -", "b -", "begin"])
        self.assert_stands(["plan s", "a -", "b -", "begin"])

    def test_an_old_name_that_a_row_ahead_has(self):
        for row in ("a h", "a -", "a b", "b h", "c c", "c h", "d h", "e -", "g -", "g h"):
            self.assert_cannot_stand(7, [*HEAD[:-1], row, "begin"])
        self.assert_cannot_stand(2, [HEAD[0], "a -", *HEAD[1:]])
        self.assert_cannot_stand(3, [HEAD[0], "b -", *HEAD[1:]])

    def test_a_new_name_that_a_row_ahead_has(self):
        for row in ("h b", "h a", "h c", "f e", "f f"):
            self.assert_cannot_stand(7, [*HEAD[:-1], row, "begin"])
        self.assert_cannot_stand(2, [HEAD[0], "h b", *HEAD[1:]])

    def test_each_row_twice(self):
        for at in range(1, 7):
            self.assert_cannot_stand(at + 1, HEAD[:at] + HEAD[at:at + 1] + HEAD[at:])
            self.assert_cannot_stand(7, [*HEAD[:7], HEAD[at], "begin"])

    def test_a_deeds_row_is_no_pairs_row(self):
        for at in range(1, 8):
            self.assert_cannot_stand(at, HEAD[:at] + ["move a b"] + HEAD[at:])
        # This one is: of the thing under the name "drop".
        self.assert_stands(HEAD[:3] + ["drop h"] + HEAD[3:])


class Begin(Logs):

    def test_where_it_lacks_it_is_the_number_of_rows(self):
        for many in range(1, 8):
            self.assert_cannot_stand(many, HEAD[:many])
        self.assert_cannot_stand(1, ["plan"])
        self.assert_cannot_stand(2, ["plan", "a b"])

    def test_a_row_ahead_that_cannot_stand_comes_ahead_of_its_lacking(self):
        self.assert_cannot_stand(2, [HEAD[0], "a b", "a c", "c d"])
        self.assert_cannot_stand(2, [HEAD[0], "a b", "begins"])
        log = whole_log(PAIRS, "abcdeg", "s")
        self.assert_cannot_stand(7, log[:7] + log[8:])

    def test_its_form(self):
        for bad in ("begin ", " begin", "Begin", "begin\n", "beginn", "", "begin\t", "end"):
            self.assert_cannot_stand(1, ["plan", bad])
            self.assert_cannot_stand(7, [*HEAD[:7], bad])
            self.assert_cannot_stand(7, [*HEAD[:7], bad, "begin"])

    def test_rings_and_no_spare_name(self):
        self.assert_cannot_stand(7, ["plan", *HEAD[1:]])
        self.assert_cannot_stand(7, ["plan", *HEAD[1:], "move b s", "move a b", "move s a"])
        self.assert_cannot_stand(3, ["plan", "b a", "a b", "begin"])
        self.assert_cannot_stand(3, ["plan", "b a", "a b", "begin", "begin"])
        self.assert_cannot_stand(4, ["plan", "b c", "a b", "c a", "begin"])

    def test_no_rings_and_no_spare_name(self):
        self.assert_stands(["plan", "begin"])
        self.assert_stands(["plan", "a a", "begin"])
        self.assert_stands(["plan", "a b", "b c", "begin"])

    def test_a_row_ahead_comes_ahead_of_rings_and_no_spare_name(self):
        self.assert_cannot_stand(3, ["plan", "b a", "a b", "b -", "begin"])
        self.assert_cannot_stand(3, ["plan", "b a", "a b"])

    def test_it_is_the_first_one_that_counts(self):
        self.assert_cannot_stand(2, ["plan", "begin", "begin"])
        self.assert_cannot_stand(2, ["plan", "begin", "a b", "begin"])
        self.assert_cannot_stand(3, ["plan", "a b", "begin", "begin", "move a b"])


class DeedsRows(Logs):

    def whole(self):
        return whole_log(PAIRS, "abcdeg", "s")

    def test_each_log_that_is_cut_off_stands(self):
        log = self.whole()
        self.assertEqual(log[:8], HEAD)
        for many in range(8, len(log) + 1):
            self.assert_stands(log[:many])

    def test_a_row_left_out(self):
        log = self.whole()
        for at in range(8, len(log) - 1):
            self.assert_cannot_stand(at, log[:at] + log[at + 1:])

    def test_a_row_twice(self):
        log = self.whole()
        for at in range(8, len(log)):
            self.assert_cannot_stand(at + 1, log[:at + 1] + log[at:])
            self.assert_cannot_stand(len(log), log + [log[at]])

    def test_two_rows_exchanged(self):
        log = self.whole()
        for at in range(8, len(log)):
            for other in range(at + 1, len(log)):
                self.assert_cannot_stand(at, swapped(log, at, other))

    def test_a_row_put_in(self):
        log = self.whole()
        for at in range(8, len(log) + 1):
            for row in ("move a h", "move k l", "drop a", "drop c", "move c c", "a b", "g -",
                        "plan s", "begin", "end", "", "move s h", "drop s"):
                self.assert_cannot_stand(at, log[:at] + [row] + log[at:])

    def test_a_row_of_another_form(self):
        log = self.whole()
        for at in range(8, len(log)):
            row = log[at]
            for bad in ("", " ", row + " ", " " + row, row.replace(" ", "  "), row + "\n",
                        row.replace(" ", "\t"), row.upper(), row.capitalize(), row + " x",
                        row[:-2], row[5:], row.replace(" ", ""), row[:-1] + "-", row[:-1],
                        row + "x", row.replace("move", "mov"), row + " -"):
                if bad != row:
                    self.assert_cannot_stand(at, log[:at] + [bad] + log[at + 1:])

    def test_more_rows_than_deeds(self):
        self.assert_cannot_stand(2, ["plan", "begin", "move a b"])
        self.assert_cannot_stand(2, ["plan s", "begin", ""])
        self.assert_cannot_stand(3, ["plan", "a a", "begin", "move a a"])
        self.assert_cannot_stand(4, ["plan", "a b", "begin", "move a b", "move b a"])
        self.assert_cannot_stand(4, ["plan", "a b", "begin", "move a b", "move a b"])

    def test_deeds_of_another_spare_name(self):
        log = self.whole()
        first = [at for at, row in enumerate(log) if at > 7 and "s" in row.split()][0]
        self.assert_cannot_stand(first, ["plan t", *log[1:]])

    def test_let_go_comes_behind_all_rows(self):
        log = ["plan", "a -", "b -", "begin", *whole_log([("a", None), ("b", None)], "ab")[4:]]
        self.assert_refused(LetGo, log[4].split()[1], gone_back, Shelf({}), log)
        self.assert_cannot_stand(6, [*log, "drop c"], "")
        self.assert_cannot_stand(5, [*log[:5], "drop c"], "")


class Every(Logs):
    """Every small change of whole logs, and of those of which only the head is written."""

    WORKS = (([], "k", "s"), ([("a", "b")], "a"), (RING, "ab", "s"), (PAIRS, "abcdeg", "s"),
             ([("a", "b"), ("b", None), ("c", "a")], "abc"),
             ([("b", "c"), ("c", "a"), ("a", "b"), ("x", "y"), ("y", "x")], "abcxy", "begin"),
             ([("plan", "move"), ("begin", "drop"), ("drop", None)], ["plan", "begin", "drop"]))
    ROWS = ("plan", "plan s", "plan t", "begin", "a b", "b a", "h i", "h -", "i b", "s h", "h s",
            "move a b", "move b s", "drop a", "drop g", "", " ", "a", "x  y", "plan -", "begin -")

    def changed(self, log):
        for at in range(len(log) + 1):
            yield log[:at]
            yield log[:at] + log[at + 1:]
            yield log[:at] + log[at:at + 1] + log[at:]
            for other in range(at + 1, len(log)):
                yield swapped(log, at, other)
            for row in self.ROWS:
                yield log[:at] + [row] + log[at:]
                yield log[:at] + [row] + log[at + 1:]

    def test_every_change(self):
        for pairs, names, *spare in self.WORKS:
            log = whole_log(pairs, names, *spare)
            for whole in (log, head_of(pairs, *spare)):
                for changed in self.changed(whole):
                    row = first_that_cannot_stand(changed)
                    if row is None:
                        self.assert_stands(changed, names)
                    else:
                        self.assert_cannot_stand(row, changed, names)
