"""A desk: a shelf, plans and runs by names, and lines that are answered with texts."""

from greatrows.ahead import told_ahead
from greatrows.alike import parted_by
from greatrows.answers import asked_text, numbers_text, parts_text, rows_text, things_text, told_text
from greatrows.endings import came_of
from greatrows.errors import Doubled, NoLine, NotShut, NotThere
from greatrows.hands import MOST_IN_ALL, Hands
from greatrows.lines import read_line
from greatrows.lots import Lots
from greatrows.plain import plain_told
from greatrows.plantext import plan_text, read_plan
from greatrows.rewriting import cheapest
from greatrows.rows import Row, row_of
from greatrows.shelves import Shelf
from greatrows.sources import Source

OK = "ok"


class Desk:
    """Takes lines, one by one."""

    def __init__(self):
        self._shelf = Shelf()
        self._plans = {}
        self._runs = {}

    def say(self, line):
        """The answer to a line."""
        read = read_line(line)
        if read is None:
            raise NoLine(line)
        word, *parts = read
        match word:
            case "source":
                return self._put_up_source(*parts)
            case "plan":
                return self._keep_plan(*parts)
            case "row" | "lots" | "hands":
                return self._begin_run(word, *parts)
            case "ask":
                return self._ask(*parts)
            case "throw":
                return self._throw(*parts)
            case "close":
                return self._close(*parts)
            case "parted":
                return self._what_parts(*parts)
            case "asked":
                return asked_text(list(self._run_called(*parts).asked().items()))
            case "log":
                return rows_text([parts_text(row) for row in self._shelf.log()]) or "none"
            case "names":
                return self._all_names()
            case _:
                return self._of_plan(word, *parts)

    def _put_up_source(self, name, things, page, faults, close_fault, then):
        _check_new(name, self._shelf.names())
        self._shelf.put_up(name, Source(things, then=then, page=page, faults=faults, close_fault=close_fault))
        return OK

    def _keep_plan(self, name, text):
        _check_new(name, self._plans)
        self._plans[name] = read_plan(text)
        return OK

    def _begin_run(self, word, name, plan_name, *rooms):
        _check_new(name, self._runs)
        plan = self._plan_called(plan_name)
        if word == "row":
            self._runs[name] = row_of(plan, self._shelf)
        elif word == "lots":
            self._runs[name] = Lots(plan, self._shelf)
        else:
            self._runs[name] = Hands(plan, self._shelf, room=rooms[0])
        return OK

    def _ask(self, name, many):
        run = self._run_called(name)
        if isinstance(run, Row):
            return _asked_of_row(run, many)
        if isinstance(run, Lots):
            return _asked_of_lots(run, many)
        return _asked_of_hands(run, many)

    def _throw(self, name, word):
        run = self._run_called(name)
        if not isinstance(run, Row):
            raise NotThere(name)
        came = came_of(lambda: run.throw(word))
        return told_text([came[1]] if came[0] == "thing" else [], 1, came)

    def _close(self, name):
        try:
            self._run_called(name).close()
        except NotShut as caught:
            return parts_text(["badly", *caught.found])
        return OK

    def _of_plan(self, word, name, *numbers):
        plan = self._plan_called(name)
        if word == "show":
            return _plan_rows(plan)
        if word == "plain":
            things, how = plain_told(plan, self._shelf, numbers[0])
            return f"{things_text(things)} | {how}"
        if word == "cheapest":
            best, cost, _ = cheapest(plan)
            return f"{cost} {_plan_rows(best)}"
        parts = told_ahead(plan, self._shelf)
        return parts_text([asked_text(part) if isinstance(part, list) else part for part in parts])

    def _what_parts(self, one, other):
        contents = parted_by(self._plan_called(one), self._plan_called(other))
        if contents is None:
            return "no"
        return parts_text([f"{name}={numbers_text(numbers)}" for name, numbers in contents.items()])

    def _all_names(self):
        return rows_text([parts_text(names) or "none" for names in (self._shelf.names(), self._plans, self._runs)])

    def _plan_called(self, name):
        if name not in self._plans:
            raise NotThere(name)
        return self._plans[name]

    def _run_called(self, name):
        if name not in self._runs:
            raise NotThere(name)
        return self._runs[name]


def _check_new(name, names):
    if name in names:
        raise Doubled(name)


def _plan_rows(plan):
    return rows_text(plan_text(plan).split("\n"))


def _asked_of_row(row, many):
    things = []
    came = None
    while len(things) < many and (came is None or came[0] == "thing"):
        came = came_of(lambda: row.ask())
        if came[0] == "thing":
            things.append(came[1])
    return told_text(things, many, came)


def _asked_of_lots(lots, many):
    came = came_of(lambda: lots.lot(many))
    if came[0] == "thing":
        return told_text(came[1], many, ("short",))
    return told_text([], many, came)


def _asked_of_hands(hands, many):
    ahead = len(hands.told())
    hands.run(hands.spots(), min(ahead + many, MOST_IN_ALL))
    return told_text(hands.told()[ahead:], many, hands.ending() or ("open",))
