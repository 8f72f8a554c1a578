"""A desk's answers by the functions and objects of the package: what desks are compared with."""

from greatrows import errors
from greatrows.ahead import told_ahead
from greatrows.alike import parted_by
from greatrows.hands import Hands
from greatrows.lots import Lots
from greatrows.plain import plain_told
from greatrows.plans import spots_of
from greatrows.plantext import plan_text
from greatrows.rewriting import cheapest
from greatrows.rows import row_of
from greatrows.shelves import Shelf
from helpers import answer


def thing_text(thing):
    return f"({' '.join(map(thing_text, thing))})" if isinstance(thing, tuple) else str(thing)


def told_text(things, many, came):
    text = ", ".join(map(thing_text, things)) or "none"
    return text if len(things) == many else text + " | " + " ".join(map(str, came))


def counts(pairs):
    return " ".join(f"{'.'.join(map(str, spot)) or '-'}:{many}" for spot, many in pairs)


class ModelDesk:
    """Each method is a form of line; what a line is refused with, it is refused with."""

    def __init__(self):
        self.shelf = Shelf()
        self.plans = {}
        self.runs = {}

    def source(self, name, source):
        self.shelf.put_up(name, source)
        return "ok"

    def plan(self, name, plan):
        self.plans[name] = plan
        return "ok"

    def begin(self, word, name, plan, *room):
        plan = self.plans[plan]
        self.runs[name] = (word, {
            "row": lambda: row_of(plan, self.shelf), "lots": lambda: Lots(plan, self.shelf),
            "hands": lambda: Hands(plan, self.shelf, room=room[0]),
        }[word](), plan)
        return "ok"

    def ask(self, name, many):
        word, run, plan = self.runs[name]
        if word == "hands":
            ahead = len(run.told())
            run.run(spots_of(plan), min(400, ahead + many))
            return told_text(run.told()[ahead:], many, run.ending() or ("open",))
        if word == "lots":
            came = answer(run.lot, many)
            return told_text(came[1], many, ("short",)) if came[0] == "thing" else told_text([], many, came)
        things = []
        while len(things) < many:
            came = answer(run.ask)
            if came[0] != "thing":
                return told_text(things, many, came)
            things.append(came[1])
        return told_text(things, many, None)

    def throw(self, name, word):
        kind, run, _ = self.runs[name]
        if kind != "row":
            raise errors.NotThere(name)
        came = answer(run.throw, word)
        return thing_text(came[1]) if came[0] == "thing" else "none | " + " ".join(map(str, came))

    def close(self, name):
        came = answer(self.runs[name][1].close)
        return "ok" if came[0] == "thing" else " ".join(["badly", *came[1]])

    def show(self, plan):
        return plan_text(self.plans[plan]).replace("\n", " / ")

    def plain(self, plan, many):
        things, word = plain_told(self.plans[plan], self.shelf, many)
        return told_text(things, None, (word,))

    def asked(self, name):
        return counts(self.runs[name][1].asked().items())

    def log(self):
        return " / ".join(" ".join(map(str, row)) for row in self.shelf.log()) or "none"

    def ahead(self, plan):
        parts = told_ahead(self.plans[plan], self.shelf)
        return " ".join(counts(part) if isinstance(part, list) else str(part) for part in parts)

    def cheapest(self, plan):
        best, cost, _ = cheapest(self.plans[plan])
        return f"{cost} " + plan_text(best).replace("\n", " / ")

    def parted(self, one, other):
        told = parted_by(self.plans[one], self.plans[other])
        if told is None:
            return "no"
        return " ".join(f"{name}={','.join(map(str, numbers)) or 'none'}" for name, numbers in told.items())

    def names(self):
        return " / ".join(" ".join(names) or "none" for names in (self.shelf.names(), self.plans, self.runs))
