"""Points 131 to 134: a desk."""

import unittest

from greatrows.deeds import deeds_text
from greatrows.desk import Desk
from greatrows.errors import (
    Doubled, Missing, NoDeeds, NoLine, NoList, NoNumber, NoText, NotThere, PlanError, TooMuch,
)
from greatrows.plantext import plan_text
from greatrows.sources import Source
from helpers import Case, odd_things, shelf_of
from made_plans import EDGES, PLANS
from model import runs
from model_desk import ModelDesk

NEVER = "chosen none below -1 yes /  "
A30 = "9" * 30


def rows(plan):
    return plan_text(plan).replace("\n", " / ")


def source_line(name, source):
    """The line that puts up such a source."""
    things, then, page, faults, closes_badly = source.told()
    line = f"source {name} {','.join(map(str, things)) or 'none'} {page} "
    line += ",".join(f"{at}:{many or 'all'}" for at, many in faults) or "none"
    line += " badly" if closes_badly else " well"
    return line if then is None else line + " then " + deeds_text(then)


def desk_with(*lines):
    desk = Desk()
    for line in lines:
        assert desk.say(line) == "ok", line
    return desk


class DeskCase(Case):
    def check_says(self, desk, *pairs):
        """Of lines and their answers by turns."""
        for line, told in zip(pairs[::2], pairs[1::2]):
            self.check_told(desk.say(line), told)

    def check_no_line(self, desk, *lines):
        before = self.state(desk)
        for line in lines:
            self.check_refused(NoLine, {"found": line}, desk.say, line)
            self.check_refused(NoLine, {"found": line}, desk.say, line=line)
        self.assertEqual(self.state(desk), before)

    def check_line_refused(self, desk, error, fields, line):
        before = self.state(desk)
        with self.assertRaises((PlanError, Missing, LookupError)) as caught:
            desk.say(line)
        self.assertIs(caught.exception.__class__, error, line)
        self.check_told(vars(caught.exception), fields)
        self.assertEqual(self.state(desk), before, line)

    def state(self, desk):
        names = desk.say("names")
        _, plans, begun = [[] if part == "none" else part.split(" ") for part in names.split(" / ")]
        return [names, desk.say("log"), [desk.say("show " + name) for name in plans],
                [desk.say("asked " + name) for name in begun]]


class Whole(DeskCase):
    def test_drawn_lines_against_objects_on_a_shelf_alike(self):
        came = {}
        for chance, _, shelf in runs(60, seed=131):
            desk, model = Desk(), ModelDesk()
            for name in shelf.names():
                source = shelf.source(name)
                self.check_told(desk.say(source_line(name, source)), model.source(name, source))
            for at, (_, plan, _) in enumerate(runs(4, seed=chance.random(), most=8)):
                name = "pqrs"[at]
                self.check_told(desk.say(f"plan {name} {rows(plan)}"), model.plan(name, plan))
            for at in range(60):
                line, told = self.drawn(chance, model, at)
                self.check_told(desk.say(line), told)
                came[line.split()[0]] = came.get(line.split()[0], 0) + 1
            self.check_told([desk.say("log"), desk.say("names")], [model.log(), model.names()])
        self.assertEqual(len(came), 12)

    def drawn(self, chance, model, at):
        """A line, and what is due of it."""
        plan, other = chance.choice("pqrs"), chance.choice("pqrs")
        if at < 6 or not model.runs:
            word = ("row", "lots", "hands")[at % 3]
            name = "run" + "abcdefghij"[len(model.runs)]
            room = [chance.randint(1, 4)] if word == "hands" else []
            return " ".join(map(str, [word, name, plan, *room])), model.begin(word, name, plan, *room)
        name = chance.choice(list(model.runs))
        many = chance.choice((1, 2, 5, 60))
        kind = chance.random()
        if kind < 0.5:
            return f"ask {name} {many}", model.ask(name, many)
        if kind < 0.55 and model.runs[name][0] == "row":
            return f"throw {name} stop", model.throw(name, "stop")
        if kind < 0.6:
            return f"close {name}", model.close(name)
        if kind < 0.7:
            return f"asked {name}", model.asked(name)
        if kind < 0.75:
            return f"show {plan}", model.show(plan)
        if kind < 0.85:
            return f"plain {plan} {many - 1}", model.plain(plan, many - 1)
        if kind < 0.92:
            return f"ahead {plan}", model.ahead(plan)
        if kind < 0.99:
            return f"cheapest {plan}", model.cheapest(plan)
        return "log", model.log()

    def test_plans_of_every_word(self):
        desk = Desk()
        for plan in [*PLANS, *EDGES]:
            desk = desk_with("plan p " + rows(plan))
            self.check_says(desk, "show p", rows(plan))

    def test_two_desks_have_nothing_in_common(self):
        one, other = Desk(), Desk()
        one.say("plan p from a")
        self.check_says(other, "names", "none / none / none", "log", "none")
        self.check_says(one, "names", "none / p / none")


class Lines(DeskCase):
    def full_desk(self):
        return desk_with("source a 1,2,3 1 none well", "plan p from a", "row r p", "lots l p", "hands h p 2")

    def test_things_that_are_no_text(self):
        desk = self.full_desk()
        self.check_no_line(desk, *[thing for thing in odd_things() if thing != "names"], b"names", ["names"],
            ("names",))

    def test_texts_that_are_none_of_these_lines(self):
        desk = self.full_desk()
        self.check_no_line(
            desk, "", " ", "hello", "Names", "NAMES", "names names", "name", "log 1", "ask", "ask r", "ask r 1 1",
            "row r",
            "row s p 1", "lots s", "lots s p 1", "hands s p", "hands s p 1 1", "throw r", "throw r w w", "close",
            "close r r",
            "show", "show p p", "plain p", "plain p 1 1", "asked", "asked r r", "ahead", "ahead p 5", "cheapest",
            "cheapest p 5", "parted p", "parted p p p", "plan", "plan q", "source", "source b", "source b none 1 none",
            "source b none 1 none well then", "source b none 1 none well add 1", "ask r 1\n", "names\n", "show p\n")

    def test_blanks(self):
        desk = self.full_desk()
        for line in ("names", "log", "ask r 1", "throw r w", "close r", "show p", "plain p 1", "asked r", "ahead p",
                     "cheapest p", "parted p p", "row s p", "lots s p", "hands s p 1", "source b 1 1 none well",
                     "source b 1 1 none well then add 1"):
            self.check_no_line(desk, " " + line, line + " ", *([line.replace(" ", "  ", 1)] if " " in line else []),
                               *([line[::-1].replace(" ", "  ", 1)[::-1]] if " " in line else []))
        self.check_no_line(desk, "plan  q from a", " plan q from a", "plan\tq from a")

    def test_names(self):
        desk = self.full_desk()
        for name in ("abcdefghi", "A", "a1", "a_b", "1", "-", "a,b"):
            self.check_no_line(
                desk, f"source {name} 1 1 none well", f"plan {name} from a", f"row {name} p", f"row s {name}",
                f"lots {name} p", f"lots s {name}", f"hands {name} p 1", f"hands s {name} 1", f"ask {name} 1",
                f"throw {name} w", f"throw r {name}", f"close {name}", f"show {name}", f"plain {name} 1",
                f"asked {name}",
                f"ahead {name}", f"cheapest {name}", f"parted {name} p", f"parted p {name}")
        self.check_says(desk, "source abcdefgh 1 1 none well", "ok", "plan abcdefgh from abcdefgh", "ok")

    def test_no_source_is_called_then(self):
        desk = Desk()
        self.check_no_line(desk, "source then 1 1 none well", "source then 1 1 none well then add 1")
        self.check_says(desk, "source thens 1 1 none well", "ok", "plan then from then", "ok", "show then", "from then")
        self.check_line_refused(desk, NotThere, {"found": "then"}, "row then then")
        desk.say("plan p from thens")
        self.check_says(desk, "row then p", "ok", "ask then 1", "1", "throw then then", "none | thrown then")

    def test_numbers(self):
        desk = self.full_desk()
        for number in ("01", "+1", "1.0", "-0", "--1", "one", "0x1", "1_0", "", "- 1", "00"):
            self.check_no_line(
                desk, f"ask r {number}", f"plain p {number}", f"hands s p {number}", f"source b {number} 1 none well",
                f"source b 1,{number} 1 none well", f"source b 1 {number} none well", f"source b 1 1 {number}:1 well",
                f"source b 1 1 1:{number} well", f"source b 1 1 none well then add {number}")

    def test_n_of_an_ask(self):
        desk = self.full_desk()
        self.check_no_line(desk, "ask r 0", "ask r 61", "ask r -1", "ask z 0", "ask z 61", "ask l 0", "ask h 61",
            "ask r " + A30)
        desk = desk_with("plan p count 1 0 on", "row r p", "lots l p", "hands h p 1")
        for name in "rlh":
            self.check_says(desk, f"ask {name} 60", ", ".join(["1"] * 60), f"ask {name} 1", "1")

    def test_lines_of_sources(self):
        desk = Desk()
        self.check_no_line(
            desk, "source a 1, 2 1 none well", "source a ,1 1 none well", "source a 1, 1 none well",
            "source a 1,,2 1 none well",
            "source a None 1 none well", "source a none,1 1 none well", "source a 1 1 1 well", "source a 1 1 1: well",
            "source a 1 1 :1 well", "source a 1 1 1:1, well", "source a 1 1 1:1:1 well", "source a 1 1 1:none well",
            "source a 1 1 all:1 well", "source a 1 1 1:1,none well", "source a 1 1 none good", "source a 1 1 none Well",
            "source a 1 1 none well then add", "source a 1 1 none well then rest 0",
            "source a 1 1 none well then sum 1",
            "source a 1 1 none well Then add 1", "source a 1 1 none well then  add 1",
            "source a 1 1 none well then add 1 ",
            "source a 1 1 none well then add 1 then add 1",
            "source a 1 1 none well then " + " ".join(["add 1"] * 9))


class Begins(DeskCase):
    def test_sources(self):
        for line, source in (
                ("none 1 none well", Source([])), ("5 1 none badly", Source([5], close_fault=True)),
                ("1,-2,0,1 8 none well", Source([1, -2, 0, 1], page=8)),
                (f"{A30},-{A30} 2 none well", Source([int(A30), -int(A30)], page=2)),
                ("1,2 1 0:1,399:9,7:all well", Source([1, 2], faults={0: 1, 399: 9, 7: None})),
                ("1 1 none badly then times 2 rest 7", Source([1], then=(("times", 2), ("rest", 7)), close_fault=True)),
                (",".join(["7"] * 40) + " 3 0:all well then " + " ".join(["add 1"] * 8), Source(
                    [7] * 40, page=3, faults={0: None}, then=(("add", 1),) * 8))):
            desk = desk_with("source a " + line, "plan p from a", "plan q again 2 a")
            shelf = shelf_of(a=source)
            self.check_told(source_line("a", source).split()[2:5:2], line.split()[0:3:2] if ",7:" not in line else [
                "1,2", "0:1,7:all,399:9"])
            model = ModelDesk()
            model.shelf, model.plans = shelf, {"p": ("from", "a"), "q": ("again", 2, "a")}
            for name in "pq":
                self.check_says(desk, f"row {name} {name}", model.begin("row", name, name), f"ask {name} 9",
                    model.ask(name, 9),
                                f"close {name}", model.close(name), f"plain {name} 60", model.plain(name, 60))
            self.check_says(desk, "log", model.log())

    def test_of_one_things_faults_told_twice_the_last(self):
        desk = desk_with("source a 5 1 0:9,0:1 well", "source b 5 1 0:1,1:1,0:all well", "plan p again 1 a",
            "plan q again 5 b")
        self.check_says(desk, "plain p 1", "5 | more", "plain q 1", "none | fault")

    def test_what_sources_are_refused_with(self):
        desk = desk_with("source a 1 1 none well")
        for line, error, fields in (
                ("b 1 0 none well", NoNumber, {"found": 0}), ("b 1 9 400:1 well", NoNumber, {"found": 9}),
                ("b " + ",".join(["1"] * 41) + " 9 none well", NoList, {"found": [1] * 41}),
                ("b 1 1 400:1 well", NoList, {"found": {400: 1}}), ("b 1 1 -1:1 well", NoList, {"found": {-1: 1}}),
                ("b 1 1 0:0 well", NoList, {"found": {0: 0}}), ("b 1 1 0:10,1:all well", NoList,
                {"found": {0: 10, 1: None}}),
                ("b none 1 none well then add 1", NoList, {"found": []}),
                ("b 1 0 none well then none", NoDeeds, {"found": ()}),
                ("a 1 0 none well", Doubled, {"found": "a"}), ("a 1 1 none well", Doubled, {"found": "a"})):
            self.check_line_refused(desk, error, fields, "source " + line)

    def test_a_ninth_source(self):
        desk = desk_with(*[f"source {name} 1 1 none well" for name in "abcdefgh"])
        self.check_line_refused(desk, TooMuch, {"many": 8}, "source i 1 1 none well")
        self.check_line_refused(desk, NoNumber, {"found": 0}, "source i 1 0 none well")
        self.check_line_refused(desk, Doubled, {"found": "h"}, "source h 1 0 none well")

    def test_plans(self):
        desk = desk_with("plan p flat /  windows 2 /   from a", "plan q merged /  from a /  sums /   count 0 1 on")
        self.check_says(desk, "show p", "flat /  windows 2 /   from a", "show q",
            "merged /  from a /  sums /   count 0 1 on",
                        "plan r sums\n from a", "ok", "show r", "sums /  from a")
        for text, at in (("", 0), (" ", 0), (" from a", 0), ("from a ", 0), ("from a / ", 1), ("from a /  from b", 1),
                ("sums", 1),
                         ("sums / from a", 1), ("sums /   from a", 1), ("sums /", 0), ("sums / ", 1), ("from a /", 0),
                         ("sums / /  from a", 1), ("sums /  /  from a", 1), ("nothing", 0), ("merged /  from a", 2),
                         (" / ".join(" " * at + "sums" for at in range(12)), 12),
                         (" / ".join(" " * at + "sums" for at in range(13)), 12), ("from a / / from b", 1)):
            self.check_line_refused(desk, NoText, {"at": at}, "plan s " + text)
        self.check_line_refused(desk, Doubled, {"found": "p"}, "plan p ")
        self.check_says(desk, "plan s " + " / ".join(" " * at + "sums" for at in range(11)) + " /            from a",
            "ok")

    def test_runs(self):
        desk = desk_with("source a 1 1 none well", "plan p from a", "plan q merged /  from z /  from a")
        self.check_says(desk, "row r p", "ok", "lots l p", "ok", "hands h p 4", "ok", "log", "none")
        for line, error, fields in (
                ("row r z", Doubled, {"found": "r"}), ("lots r p", Doubled, {"found": "r"}),
                ("hands r p 9", Doubled, {"found": "r"}),
                ("row h p", Doubled, {"found": "h"}), ("row l z", Doubled, {"found": "l"}),
                ("row s z", NotThere, {"found": "z"}), ("lots s a", NotThere, {"found": "a"}),
                ("hands s r 9", NotThere, {"found": "r"}),
                ("row s q", NotThere, {"found": "z"}), ("lots s q", NotThere, {"found": "z"}),
                ("hands s q 1", NotThere, {"found": "z"}),
                ("hands s q 0", NoNumber, {"found": 0}), ("hands s p 5", NoNumber, {"found": 5}),
                ("hands s p -1", NoNumber, {"found": -1})):
            self.check_line_refused(desk, error, fields, line)

    def test_names_of_one_sort_and_of_another_one(self):
        desk = desk_with("source a 1 1 none well", "plan a from a", "row a a")
        self.check_says(desk, "names", "a / a / a", "ask a 2", "1 | over", "show a", "from a")
        for line in ("source a 2 1 none well", "plan a from b", "row a a", "lots a a", "hands a a 1"):
            self.check_line_refused(desk, Doubled, {"found": "a"}, line)
        for line in ("ask p 1", "throw p w", "close p", "show p", "plain p 1", "plain p 401", "asked p", "ahead p",
                "cheapest p",
                     "parted p a", "parted a p", "parted p q", "row r p", "lots l p", "hands h p 9"):
            self.check_line_refused(desk, NotThere, {"found": "p"}, line)


class Asks(DeskCase):
    def test_things(self):
        desk = desk_with("plan p windows 2 /  windows 2 /   count -1 1 on", "row r p", "lots l p", "hands h p 1")
        for name in "rlh":
            self.check_says(desk, f"ask {name} 2", "((-1 0) (0 1)), ((0 1) (1 2))", f"ask {name} 1", "((1 2) (2 3))")

    def test_over(self):
        desk = desk_with("plan p count 5 1 3", "row r p", "lots l p", "hands h p 1")
        self.check_says(
            desk, "ask r 2", "5, 6", "ask r 2", "7 | over", "ask r 2", "none | over", "ask l 2", "5, 6", "ask l 2",
            "7 | short",
            "ask l 2", "none | over", "ask l 2", "none | over", "ask h 2", "5, 6", "ask h 2", "7 | over", "ask h 2",
            "none | over")
        desk = desk_with("plan p count 5 1 3", "row r p", "lots l p", "hands h p 1")
        for name in "rlh":
            self.check_says(desk, f"ask {name} 3", "5, 6, 7", f"ask {name} 3", "none | over")

    def test_faults(self):
        desk = desk_with("source a 1,2 1 1:all well", "plan p from a", "row r p", "lots l p", "hands h p 1")
        self.check_says(
            desk, "ask r 5", "1 | fault a 1", "ask r 5", "none | over", "ask l 5", "1 | short", "ask l 5",
            "none | fault a 1",
            "ask l 5", "none | over", "ask h 5", "1 | fault a 1", "ask h 5", "none | fault a 1")
        desk = desk_with("plan p matched 2 none /  count 0 1 1 /  count 0 1 3", "row r p", "lots l p", "hands h p 1")
        self.check_says(desk, "ask r 5", "none | much 2", "ask r 5", "none | over", "ask l 5", "none | much 2",
                        "ask l 5", "none | over", "ask h 5", "none | much 2", "ask h 5", "none | much 2")

    def test_waits(self):
        rest = "rest 300 is 250 yes"
        desk = desk_with(f"plan p behind /  count 7 0 1 /  chosen {rest} /   count 0 1 on", "row r p", "lots l p")
        self.check_says(
            desk, "ask r 2", "7 | waits 200", "ask r 2", "250 | waits 200", "ask r 1", "550", "ask l 2", "7 | short",
            "ask l 2", "none | waits 200", "ask l 2", "250 | short", "ask l 1", "none | waits 200", "ask l 1", "550")

    def test_hands_that_do_not_end(self):
        desk = desk_with(f"plan p {NEVER}count 0 1 on", "hands h p 1",
            f"plan q behind /  count 7 0 2 /  {NEVER.replace('/  ', '/   ')}count 0 1 on",
                         "hands g q 2")
        self.check_says(desk, "ask h 1", "none | open", "asked h", "0:1000", "ask h 5", "none | open", "asked h",
            "0:2000",
                        "ask g 2", "7, 7", "ask g 1", "none | open", "ask g 60", "none | open")

    def test_hands_tell_400_things_in_all(self):
        desk = desk_with("plan p count 1 0 on", "hands h p 1", "row r p")
        for _ in range(6):
            self.check_says(desk, "ask h 60", ", ".join(["1"] * 60))
        self.check_says(desk, "ask h 39", ", ".join(["1"] * 39), "asked h", "-:399", "ask h 2", "1 | open", "ask h 1",
            "none | open",
                        "asked h", "-:400")
        desk = desk_with("source a 1 1 none well then add 0", "plan p first 60 /  from a", "hands h p 4")
        self.check_says(desk, "ask h 60", ", ".join(["1"] * 60), "ask h 60", "none | over")

    def test_hands_go_in_rounds_of_all_spots(self):
        desk = desk_with("source a 1 8 none well then add 1", "plan p sums /  from a", "hands h p 2")
        # The whole plan's hand, the leaf's, and so on: a thing is told in the third round, when two were asked for.
        self.check_says(desk, "ask h 1", "1", "asked h", "0:2", "log", "open 0 a / load 0 0 / ask 0 0 1 / ask 0 1 1")

    def test_throw(self):
        desk = desk_with("plan p else /  count 1 1 on /  count 7 0 1", "row r p", "lots l p", "hands h p 1",
            "plan q flat /  windows 2 /   count 0 1 on",
                         "row s q")
        self.check_says(desk, "ask r 2", "1, 2", "throw r stop", "7", "throw r stop", "none | thrown stop",
            "throw r stop", "none | over",
                        "ask s 1", "0", "throw s w", "1", "throw s w", "none | thrown w", "ask s 1", "none | over")
        for name in "lhz":
            self.check_line_refused(desk, NotThere, {"found": name}, f"throw {name} stop")
        desk = desk_with(f"plan p {NEVER}else /   count 1 1 on /   count 7 0 on", "row r p")
        self.check_says(desk, "throw r w", "none | waits 200")

    def test_close(self):
        desk = desk_with("source a 1 1 none badly then add 1", "source b 2 1 none well then add 1",
            "source c 3 1 none badly then add 1",
                         "plan p merged /  from a /  merged /   from b /   from c", "plan q from b")
        for word, name, more in (("row", "r", ""), ("lots", "l", ""), ("hands", "h", " 1")):
            desk.say(f"{word} {name} p{more}")
            desk.say(f"{word} {name}q q{more}")
            self.check_says(desk, f"ask {name} 2", "1, 2", f"close {name}", "badly c a", f"close {name}", "ok",
                            f"ask {name}q 1", "2", f"close {name}q", "ok", f"close {name}q", "ok")
        self.check_says(desk, "ask r 1", "none | over", "ask l 1", "none | over", "ask h 1", "none | open",
                        "row s p", "ok", "close s", "ok", "ask s 1", "none | over")


class Tells(DeskCase):
    def test_an_empty_desk(self):
        self.check_says(Desk(), "names", "none / none / none", "log", "none")

    def test_plain(self):
        desk = desk_with("source a 1,2 1 1:1 well", "plan p from a", "plan q from z", f"plan r {NEVER}count 0 1 on",
                         "plan s windows 2 /  count 0 1 on")
        self.check_says(desk, "plain p 0", "none | more", "plain p 1", "1 | more", "plain p 400", "1 | fault",
            "plain r 1", "none | open",
                        "plain s 2", "(0 1), (1 2) | more", "log", "none")
        for many in (-1, 401):
            for plan in "pq":
                self.check_line_refused(desk, NoNumber, {"found": many}, f"plain {plan} {many}")
        self.check_line_refused(desk, NotThere, {"found": "z"}, "plain q 1")

    def test_asked(self):
        desk = desk_with("source a 1,2 1 none well", "plan p beside /  from a /  merged /   count 0 1 on /   from a",
            "plan q from a")
        for line, none, asked in (
                ("row r p", "0:0 1.0:0 1.1:0", "0:2 1.0:2 1.1:1"), ("lots l p", "0:0 1.0:0 1.1:0", "0:2 1.0:2 1.1:1"),
                ("row s q", "-:0", "-:2"), ("hands h q 3", "-:0", "-:2")):
            name = line.split()[1]
            self.check_says(desk, line, "ok", f"asked {name}", none)
            desk.say(f"ask {name} 2")
            self.check_says(desk, f"asked {name}", asked)

    def test_log(self):
        desk = desk_with("source a 1,2 1 1:1 badly", "plan p again 1 a", "row r p")
        desk.say("ask r 3")
        self.check_says(desk, "log",
            "open 0 a / load 0 0 / ask 0 0 1 / load 0 1 / fault 0 1 / ask 0 1 1 / end 0 / badly 0")

    def test_ahead(self):
        sources = ("source a 1,2,3 1 none well", "source b 1 1 1:1 well then add 1")
        for text, told in (
                ("from a", "ends 3 -:3 0"), ("beside /  sums /   from a /  count 0 1 on", "ends 3 0.0:3 1:3 1"),
                ("from b", "faults 1 -:1 0"),
                ("matched 1 none /  from a /  from a", "faults 0 0:0 1:2 1"), ("count 0 1 on", "endless 1 1 0"),
                ("chosen rest 7 is 7 yes /  count 0 1 on", "waits 0 0"), (f"{NEVER}count 0 1 on", "open 0 0"),
                ("first 0 /  from a", "ends 0 0:0 0")):
            self.check_says(desk_with(*sources, "plan p " + text), "ahead p", told)
        desk = Desk()
        desk.say("plan p from z")
        self.check_line_refused(desk, NotThere, {"found": "z"}, "ahead p")

    def test_cheapest(self):
        for text, told in (("from z", "1 from z"), ("skip 0 /  turned none /   from a", "1 from a"),
                           ("first 3 /  turned add 1 /   turned times 2 /    count 0 1 on", "1 count 1 2 3"),
                           ("merged /  skip 0 /   from a /  first 2 /   first 1 /    from b",
                           "4 merged /  from a /  first 1 /   from b")):
            self.check_says(desk_with("plan p " + text), "cheapest p", told)
        # Three hundred plans are reached of the one, more of the other one.
        skips = "skip 0 /   skip 0 /    skip 0 /     turned add 1 /      "
        desk = desk_with(f"plan p merged /  {skips}from a /  {skips}turned add 1 /       from b")
        self.assertEqual(desk.say("cheapest p").split(" ")[0], "8")
        desk.say("plan q merged /  skip 0 /   skip 0 /    turned add 1 /     turned add 1 /      from a"
                 f" /  {skips}turned add 1 /       from b")
        self.check_line_refused(desk, TooMuch, {"many": 301}, "cheapest q")

    def test_parted(self):
        desk = desk_with("plan a from a", "plan b from b", "plan c turned none /  from a", "plan d count 0 0 on",
            "plan e count 1 0 on",
                         "plan f merged /  from a /  from b", "plan g merged /  from b /  from a",
                         "plan h merged /  from c /  from d",
                         "plan i turned add 1 /  from a")
        self.check_says(desk, "parted a b", "a=none b=0", "parted b a", "a=none b=0", "parted a c", "no",
            "parted a a", "no",
                        "parted d e", "", "parted d d", "no", "parted f g", "a=1 b=1,0", "parted a i", "a=0")
        self.check_line_refused(desk, TooMuch, {"many": 4}, "parted f h")
        self.check_line_refused(desk, NotThere, {"found": "z"}, "parted z y")
        self.check_line_refused(desk, NotThere, {"found": "y"}, "parted f y")

    def test_names_in_the_order_in_which_they_came(self):
        desk = desk_with("source b 1 1 none well", "plan q from b", "source a 1 1 none well", "hands z q 1",
            "row x q", "plan p from a",
                         "lots y p")
        self.check_says(desk, "names", "b a / q p / z x y")

    def test_what_only_tells_changes_nothing(self):
        desk = desk_with("source a 1,2,3 2 1:1 well", "plan p again 1 a", "row r p", "lots l p", "hands h p 1")
        for name in "rlh":
            desk.say(f"ask {name} 2")
        before = self.state(desk)
        for line in ("show p", "plain p 9", "asked r", "log", "ahead p", "cheapest p", "parted p p", "names"):
            self.assertEqual(desk.say(line), desk.say(line=line))
        self.assertEqual(self.state(desk), before)
        for name, told in zip("rlh", ("3 | over", "3 | short", "3 | over")):
            self.check_says(desk, f"ask {name} 2", told)


if __name__ == "__main__":
    unittest.main()
