"""Points 9, 25 and 26: the texts that write plans."""

import unittest

from greatrows.errors import NoPlan, NoText, NoWord
from greatrows.plans import is_plan, renamed
from greatrows.plantext import plan_text, read_plan
from helpers import Case, Own, odd_things
from made_plans import EDGES, PLANS, TESTS, THIRTY, nest, tree

A = ("from", "a")
WRITTEN = (
    (("from", "a"), "from a"),
    (("from", "from"), "from from"),
    (("again", 3, "none"), "again 3 none"),
    (("count", 0, -1, None), "count 0 -1 on"),
    (("count", -THIRTY, THIRTY, 0), f"count -{THIRTY} {THIRTY} 0"),
    (("count", 5, 5, 60), "count 5 5 60"),
    (("turned", (), A), "turned none\n from a"),
    (("turned", (("add", 1), ("rest", 5)), A), "turned add 1 rest 5\n from a"),
    (("groups", (), A), "groups none\n from a"),
    (("groups", (("times", -2),), A), "groups times -2\n from a"),
    (("chosen", TESTS, A), "chosen add 2 rest 5 below 3 yes and none is 0 no\n from a"),
    (("while", TESTS[1:], A), "while none is 0 no\n from a"),
    (("until", TESTS[:1], A), "until add 2 rest 5 below 3 yes\n from a"),
    (("first", 0, A), "first 0\n from a"),
    (("skip", 60, A), "skip 60\n from a"),
    (("windows", 8, A), "windows 8\n from a"),
    (("sums", A), "sums\n from a"),
    (("flat", A), "flat\n from a"),
    (("behind", A, ("from", "b")), "behind\n from a\n from b"),
    (("beside", A, ("from", "b")), "beside\n from a\n from b"),
    (("merged", A, ("from", "b")), "merged\n from a\n from b"),
    (("else", A, ("from", "b")), "else\n from a\n from b"),
    (("matched", (), 1, A, ("from", "b")), "matched 1 none\n from a\n from b"),
    (("matched", (("rest", 3), ("add", -4)), 8, A, ("from", "b")), "matched 8 rest 3 add -4\n from a\n from b"),
    (("sums", ("flat", ("first", 2, A))), "sums\n flat\n  first 2\n   from a"),
    (("behind", ("sums", ("beside", A, A)), ("flat", A)), "behind\n sums\n  beside\n   from a\n   from a\n flat\n  from a"),
)


class Written(Case):
    def test_by_hand(self):
        for plan, text in WRITTEN:
            self.check_told(plan_text(plan), text)
            self.check_told(read_plan(text), plan)

    def test_what_is_written_is_read(self):
        texts = {}
        for plan in PLANS:
            text = plan_text(plan=plan)
            self.check_told(read_plan(text=text), plan)
            self.assertEqual(texts.setdefault(text, plan), plan)

    def test_a_row_for_each_spot(self):
        for many in range(1, 13):
            rows = plan_text(nest(many)).split("\n")
            self.assertEqual([len(row) - len(row.lstrip(" ")) for row in rows], list(range(many)))
            self.assertEqual([row for row in rows if row != row.rstrip()], [])

    def test_sources_called_otherwise(self):
        text = "behind\n from a\n beside\n  again 2 b\n  from a"
        told = renamed(read_plan(text), {"a": "b", "b": "a"})
        self.assertEqual(plan_text(told), "behind\n from b\n beside\n  again 2 a\n  from b")

    def test_each_text_with_sources_called_otherwise(self):
        names = {"a": "q", "b": "abcdefgh", "c": "a", "from": "d", "none": "from"}
        for plan in PLANS:
            rows = []
            for row in plan_text(plan).split("\n"):
                words = row.split(" ")
                if row.lstrip(" ").split(" ")[0] in ("from", "again"):
                    words[-1] = names.get(words[-1], words[-1])
                rows.append(" ".join(words))
            self.assertEqual(plan_text(renamed(plan, names)), "\n".join(rows))
            self.check_told(read_plan("\n".join(rows)), renamed(plan, names))

    def test_what_is_no_plan(self):
        for thing in (*odd_things(), nest(13), list(A), "from a", ("sums",)):
            self.check_refused(NoPlan, {"found": thing}, plan_text, thing)


class Read(Case):
    def check_no_text(self, at, text):
        self.check_refused(NoText, {"at": at}, read_plan, text)

    def test_what_is_no_text(self):
        for thing in (*odd_things(), b"from a", ["from a"], A, Own()):
            if not isinstance(thing, str):
                self.check_refused(NoWord, {"found": thing}, read_plan, thing)
        self.check_refused(NoWord, {"found": A}, read_plan, text=A)

    def test_the_text_without_signs_has_one_row(self):
        self.check_no_text(0, "")
        self.check_no_text(0, "\n")
        self.check_no_text(0, "\nfrom a")

    def test_rows_that_are_none(self):
        for row in (
            " ", "x", "From a", "FROM a", "from", "from ", "from A", "from a ", "from  a", "from a b", "from abcdefghi",
            "from 1", "from\ta", "from-a", "froma", "from a\t",
            "again a", "again 0 a", "again 6 a", "again 01 a", "again -1 a", "again 2", "again 2 A", "again 2  a",
            "again  2 a", "again 2 a ", "again a 2", "again 2 a a", "again two a", "again +2 a",
            "count", "count 1", "count 1 1", "count 1 1 61", "count 1 1 -1", "count 1 1 none", "count 1 1 On",
            "count on 1 1", "count 1 on 1", "count 1 1 on ", "count 1 1 on on", "count 01 1 on", "count 1 -0 on",
            "count 1 1  on", "count  1 1 on", "count 1 1 00", "count 1 1 1 1", "count a 1 1", "count 1 1 ",
            "on", "none", "add 1",
        ):
            self.check_no_text(0, row)
            self.check_no_text(0, row + "\n from a")
            self.check_no_text(1, "sums\n " + row)
            self.check_no_text(2, "behind\n from a\n " + row)

    def test_rows_of_nodes_that_are_none(self):
        for row in (
            "turned", "turned ", "turned  none", "turned none ", "turned None", "turned add", "turned add 01",
            "turned rest 0", "turned add 1  add 1", "turned add 1 ", "turned add 1 none", "turned add 1 and add 1",
            "turned " + " ".join(["add 1"] * 9), "turned none is 1 yes",
            "groups", "groups x", "groups rest -1", "groups none none",
            "chosen", "chosen none", "chosen none is 1", "chosen none is 1 yes ", "chosen  none is 1 yes",
            "chosen none parts 0 yes", "chosen none is 1 yes and", "chosen none is 1 yes and  none is 1 no",
            "chosen " + " and ".join(["none is 1 yes"] * 9), "while", "while add 1", "until", "until none is 1 maybe",
            "first", "first 61", "first -1", "first 00", "first 3 ", "first  3", "first a", "first on", "first 1 1",
            "first " + "9" * 5000, "skip", "skip 61", "skip -0", "skip 3 3", "windows", "windows 0", "windows 9",
            "windows 8 ", "windows 08", "sums ", "sums 1", "sums none", "Sums", "flat ", "flat 1", "flatten",
            "behind ", "behind 1", "beside ", "merged ", "merged none", "else ", "else 0", "matched", "matched 1",
            "matched none 1", "matched 0 none", "matched 9 none", "matched 1 none ", "matched 1  none", "matched 1 rest 0",
            "matched none", "matched  1 none", "matched 1 none 1", "matched 01 none", "matched -1 none", "groups 1 none",
        ):
            self.check_no_text(0, row + "\n from a\n from b")
            self.check_no_text(2, "sums\n flat\n  " + row + "\n   from a\n   from b")
            self.check_no_text(2, "else\n from c\n " + row)

    def test_blanks_ahead(self):
        for text, at in (
            (" from a", 0), ("  from a", 0), ("sums\nfrom a", 1), ("sums\n  from a", 1), (" sums\n from a", 0),
            ("behind\n from a\nfrom b", 2), ("behind\n from a\n  from b", 2), ("behind\n  from a\n from b", 1),
            ("behind\n sums\n from a\n from b", 2), ("behind\n sums\n  from a\n  from b", 3), ("sums\n\tfrom a", 1),
            ("behind\n sums\n  flat\n   from a\n    from b", 4), ("behind\n sums\n  flat\n   from a\nfrom b", 4),
        ):
            self.check_no_text(at, text)

    def test_each_row_of_each_text_with_a_blank_more_or_less(self):
        for plan in EDGES:
            rows = plan_text(plan).split("\n")
            for at, row in enumerate(rows):
                for wrong in (" " + row, row + " ", row.replace(" ", "  ", 1) + " ", row[1:], row[:-1] + "\t", "", "#" + row):
                    self.check_no_text(at, "\n".join([*rows[:at], wrong, *rows[at + 1:]]))

    def test_a_row_more(self):
        for plan in EDGES:
            text = plan_text(plan)
            many = len(text.split("\n"))
            for more in ("", " ", "from a", " from a", "  from a", "sums", "x"):
                self.check_no_text(many, text + "\n" + more)
                self.check_no_text(many, text + "\n" + more + "\n" + more)

    def test_a_line_feed_at_the_end(self):
        self.check_no_text(1, "from a\n")
        self.check_no_text(2, "sums\n from a\n")
        self.check_no_text(1, "sums\n")
        self.check_no_text(12, plan_text(nest(12)) + "\n")

    def test_a_row_less(self):
        for plan in EDGES:
            rows = plan_text(plan).split("\n")
            for at in range(1, len(rows)):
                self.check_no_text(at, "\n".join(rows[:at]))
        self.check_no_text(1, "behind")
        self.check_no_text(2, "behind\n from a")
        self.check_no_text(2, "behind\n sums")
        self.check_no_text(3, "behind\n sums\n  from a")

    def test_a_thirteenth_row(self):
        rows = [" " * depth + "sums" for depth in range(40)]
        for many in range(1, 40):
            self.check_no_text(min(many, 12), "\n".join(rows[:many]))
            leaf = "\n".join([*rows[:many], " " * many + "from a"])
            if many <= 11:
                self.assertIs(is_plan(read_plan(leaf)), True)
            else:
                self.check_no_text(12, leaf)
        wide = plan_text(tree(11)).split("\n")
        self.check_no_text(12, "\n".join(["beside", *[" " + row for row in wide], " from z"]))
        self.check_no_text(12, "\n".join(["beside", *[" " + row for row in wide]]))
        self.check_no_text(11, "\n".join([*wide, "sums"]))

    def test_the_first_wrong_row_is_told(self):
        self.check_no_text(1, "sums\n x\ny\nz")
        self.check_no_text(0, "x\n y\n z")
        self.check_no_text(2, "sums\n from a\nx\ny")
        self.check_no_text(3, "behind\n sums\n  from a\n xx")

    def test_a_text_that_is_read_is_the_one_that_is_written(self):
        for _, text in WRITTEN:
            for at in range(len(text) + 1):
                for sign in ("", " ", "0", "1", "-", "a", "\n", "\n "):
                    for changed in (text[:at] + sign + text[at:], text[:at] + sign + text[at + 1:]):
                        try:
                            plan = read_plan(changed)
                        except NoText as refusal:
                            self.assertIn(refusal.at, range(changed.count("\n") + 2))
                        else:
                            self.assertEqual(plan_text(plan), changed)


if __name__ == "__main__":
    unittest.main()
