"""Points 33 to 37: shelves, readings and the log."""

import itertools
import random
import unittest

from greatrows.deeds import turned_by
from greatrows.errors import Doubled, Fault, NoName, NoNumber, NoSource, NotOpen, NotShut, NotThere, Over, TooMuch
from greatrows.shelves import Shelf
from greatrows.sources import Source
from helpers import Case, Own, odd_things, shown

SOURCES = {
    "plain": Source([5, 6, 7]),
    "empty": Source([], faults={0: 1}),
    "paged": Source(list(range(10)), page=3),
    "on": Source([1, 2], then=(("times", 3), ("rest", 100)), page=4),
    "faulty": Source([4, 5, 6, 7], page=2, faults={0: 2, 2: None, 9: 3}),
    "wears": Source([8, 9], then=(("add", 1),), page=8, faults={1: 1, 3: 9, 20: 2}, close_fault=True),
    "bad": Source([1], close_fault=True),
    "deep": Source([0], then=(("add", 1),), page=5, faults={399: 1}),
}


def full_shelf():
    shelf = Shelf()
    for name, source in SOURCES.items():
        shelf.put_up(name, source)
    return shelf


def state(shelf):
    """All that a shelf tells."""
    many = 0
    places = []
    while True:
        try:
            places.append((shelf.place(many), shelf.name_of(many), shelf.is_open(many)))
        except NotThere:
            break
        many += 1
    return (shelf.names(), [shelf.source(name).told() for name in shelf.names()], places, shelf.open_ones(), shelf.log(),
            [(shelf.told_of(name), shelf.loads(name)) for name in shelf.names()])


class ShelfCase(Case):
    def check_shelf_refuses(self, shelf, error, fields, call, *args, **named):
        """It is refused, and changes nothing."""
        before = shown(state(shelf))
        self.check_refused(error, fields, call, *args, **named)
        self.assertEqual(shown(state(shelf)), before)


class Model:
    """A reading and its rows of the log, reckoned from the words of the document alone."""

    def __init__(self, number, name):
        self.things, self.then, self.page, faults, self.bad = SOURCES[name].told()
        self.faults = dict(faults)
        self.number = number
        self.name = name
        self.place = 0
        self.asked = {}
        self.loaded = []
        self.is_open = True

    def has(self, at):
        return self.then is not None or at < len(self.things)

    def thing(self, at):
        told = self.things[min(at, len(self.things) - 1)]
        for _ in range(at - len(self.things) + 1):
            told = turned_by(self.then, told)
        return told

    def faults_at(self, at):
        if at not in self.faults:
            return False
        return self.faults[at] is None or self.asked.get(at, 0) < self.faults[at]

    def load(self, log, at):
        if at // self.page not in self.loaded:
            self.loaded.append(at // self.page)
            log.append(("load", self.number, at // self.page))

    def ask(self, log, many):
        at = self.place
        if not self.has(at):
            log.append(("end", self.number))
            return "end"
        if self.faults_at(at):
            self.load(log, at)
            self.asked[at] = self.asked.get(at, 0) + 1
            log.append(("fault", self.number, at))
            return "fault"
        told = []
        while len(told) < many and self.has(self.place) and not self.faults_at(self.place):
            self.load(log, self.place)
            told.append(self.thing(self.place))
            self.place += 1
        log.append(("ask", self.number, at, len(told)))
        return told


class PutUp(ShelfCase):
    def test_names_and_sources(self):
        shelf = Shelf()
        self.check_told(shelf.names(), [])
        self.assertIs(shelf.put_up("b", SOURCES["plain"]), None)
        self.assertIs(shelf.put_up(source=SOURCES["on"], name="a"), None)
        shelf.put_up("c", SOURCES["plain"])
        self.check_told(shelf.names(), ["b", "a", "c"])
        self.assertIs(shelf.source("a"), SOURCES["on"])
        self.assertIs(shelf.source(name="b"), SOURCES["plain"])
        self.assertIs(shelf.source("c"), SOURCES["plain"])

    def test_at_most_eight(self):
        shelf = Shelf()
        for many, name in enumerate("abcdefgh"):
            shelf.put_up(name, Source([many]))
            self.assertEqual(len(shelf.names()), many + 1)
        self.check_shelf_refuses(shelf, TooMuch, {"many": 8}, shelf.put_up, "i", Source([1]))
        self.check_shelf_refuses(shelf, Doubled, {"found": "a"}, shelf.put_up, "a", Source([1]))
        self.check_shelf_refuses(shelf, Doubled, {"found": "h"}, shelf.put_up, "h", Source([1]))
        self.assertEqual([shelf.source(name).thing(0) for name in "abcdefgh"], list(range(8)))

    def test_refusals(self):
        for shelf in (Shelf(), full_shelf()):
            for thing in odd_things():
                if thing not in ("a", "none", "sums"):
                    for other in (SOURCES["on"], None, Own()):
                        self.check_shelf_refuses(shelf, NoName, {"found": thing}, shelf.put_up, thing, other)
                for name in ("a", "plain"):
                    self.check_shelf_refuses(shelf, NoSource, {"found": thing}, shelf.put_up, name, thing)
            self.check_shelf_refuses(shelf, NoSource, {"found": Source}, shelf.put_up, "new", Source)
            self.check_shelf_refuses(shelf, NoSource, {"found": shelf}, shelf.put_up, "new", shelf)

    def test_doubled(self):
        shelf = Shelf()
        shelf.put_up("a", SOURCES["on"])
        self.check_shelf_refuses(shelf, Doubled, {"found": "a"}, shelf.put_up, "a", SOURCES["on"])
        self.check_shelf_refuses(shelf, Doubled, {"found": "a"}, shelf.put_up, "a", SOURCES["plain"])
        self.assertIs(shelf.source("a"), SOURCES["on"])

    def test_lists_are_new_ones(self):
        shelf = full_shelf()
        number = shelf.open_up("plain")
        for call in (shelf.names, shelf.open_ones, shelf.log):
            told = call()
            before = list(told)
            told.append("x")
            del told[0]
            self.check_told(call(), before)
            self.assertIsNot(call(), call())
        self.assertEqual(shelf.ask(number), 5)

    def test_names_that_are_not_there(self):
        one = Shelf()
        one.put_up("last", SOURCES["on"])
        for shelf in (Shelf(), one, full_shelf()):
            for call in (shelf.source, shelf.open_up, shelf.told_of, shelf.loads):
                for thing in (*odd_things(), "plainly", "plai", 0, ["last"], ("last",), SOURCES["on"]):
                    self.check_shelf_refuses(shelf, NotThere, {"found": thing}, call, thing)
                    self.check_shelf_refuses(shelf, NotThere, {"found": thing}, call, name=thing)


class Ask(ShelfCase):
    def test_numbers_of_readings(self):
        shelf = full_shelf()
        for number, name in enumerate(("on", "plain", "on", "bad")):
            self.check_told(shelf.open_up(name=name), number)
            self.check_told(shelf.place(number), 0)
            self.check_told(shelf.name_of(number), name)
        shelf.shut(1)
        self.check_told(shelf.open_up("plain"), 4)
        self.check_told(shelf.open_ones(), [0, 2, 3, 4])
        self.check_told(shelf.log(), [
            ("open", 0, "on"), ("open", 1, "plain"), ("open", 2, "on"), ("open", 3, "bad"), ("shut", 1),
            ("open", 4, "plain")])

    def test_to_the_end(self):
        shelf = full_shelf()
        reading = shelf.open_up("plain")
        self.assertEqual([shelf.ask(reading), shelf.ask(reading=reading), shelf.ask(reading)], [5, 6, 7])
        for _ in range(3):
            self.check_refused(Over, {}, shelf.ask, reading)
        self.check_refused(Over, {}, shelf.ask_lot, reading, 4)
        self.check_told(shelf.place(reading), 3)
        self.check_told(shelf.log(), [
            ("open", 0, "plain"), ("load", 0, 0), ("ask", 0, 0, 1), ("load", 0, 1), ("ask", 0, 1, 1), ("load", 0, 2),
            ("ask", 0, 2, 1), ("end", 0), ("end", 0), ("end", 0), ("end", 0)])

    def test_no_things(self):
        shelf = full_shelf()
        reading = shelf.open_up("empty")
        self.check_refused(Over, {}, shelf.ask, reading)
        self.check_refused(Over, {}, shelf.ask_lot, reading, 1)
        self.check_told(shelf.log(), [("open", 0, "empty"), ("end", 0), ("end", 0)])
        self.check_told((shelf.told_of("empty"), shelf.loads("empty")), (0, 0))

    def test_faults_wear_off_in_each_reading(self):
        shelf = full_shelf()
        one, other = shelf.open_up("faulty"), shelf.open_up("faulty")
        for reading in (one, one, other):
            self.check_refused(Fault, {"name": "faulty", "at": 0}, shelf.ask, reading)
        self.assertEqual(shelf.ask(one), 4)
        self.check_refused(Fault, {"name": "faulty", "at": 0}, shelf.ask, other)
        self.assertEqual(shelf.ask(other), 4)
        self.assertEqual(shelf.ask(one), 5)
        for _ in range(30):
            self.check_refused(Fault, {"name": "faulty", "at": 2}, shelf.ask, one)
        self.check_told((shelf.place(one), shelf.place(other)), (2, 1))
        third = shelf.open_up("faulty")
        self.check_refused(Fault, {"name": "faulty", "at": 0}, shelf.ask, third)

    def test_every_number_of_faults(self):
        for many in range(1, 10):
            shelf = Shelf()
            shelf.put_up("a", Source([1, 2], faults={1: many}))
            reading = shelf.open_up("a")
            self.assertEqual(shelf.ask(reading), 1)
            for _ in range(many):
                self.check_refused(Fault, {"name": "a", "at": 1}, shelf.ask, reading)
            self.assertEqual(shelf.ask(reading), 2)
            self.check_refused(Over, {}, shelf.ask, reading)

    def test_a_fault_behind_the_end_is_none(self):
        shelf = Shelf()
        shelf.put_up("a", Source([1], faults={1: None, 2: 1}))
        reading = shelf.open_up("a")
        self.assertEqual(shelf.ask(reading), 1)
        self.check_refused(Over, {}, shelf.ask, reading)
        self.check_told(shelf.log()[-1], ("end", 0))

    def test_pages_are_loaded_when_first_needed(self):
        for page in range(1, 9):
            shelf = Shelf()
            shelf.put_up("a", Source(list(range(20)), page=page, faults={3: 2, 8: 1}))
            reading = shelf.open_up("a")
            loaded = []
            for at in range(20):
                for _ in range({3: 2, 8: 1}.get(at, 0)):
                    self.check_refused(Fault, {"name": "a", "at": at}, shelf.ask, reading)
                    if at // page not in loaded:
                        loaded.append(at // page)
                        self.check_told(shelf.log()[-2:], [("load", 0, at // page), ("fault", 0, at)])
                    self.assertEqual(shelf.loads("a"), len(loaded))
                shelf.ask(reading)
                if at // page not in loaded:
                    loaded.append(at // page)
                    self.check_told(shelf.log()[-2:], [("load", 0, at // page), ("ask", 0, at, 1)])
                self.assertEqual(shelf.loads("a"), len(loaded))
            rows = [row for row in shelf.log() if row[0] == "load"]
            self.assertEqual(rows, [("load", 0, at) for at in range((19 // page) + 1)])
            self.assertEqual(len(shelf.log()), 1 + len(rows) + 3 + 20)

    def test_what_is_no_open_reading(self):
        shelf = full_shelf()
        for _ in range(3):
            shelf.open_up("plain")
        shelf.shut(1)
        for thing in (*odd_things(), 3, 1, -1, -2, -3, "0", SOURCES["on"], shelf):
            if not isinstance(thing, int) or isinstance(thing, bool) or thing not in (0, 2):
                self.check_shelf_refuses(shelf, NotOpen, {"found": thing}, shelf.ask, thing)
                self.check_shelf_refuses(shelf, NotOpen, {"found": thing}, shelf.ask, reading=thing)
                self.check_shelf_refuses(shelf, NotOpen, {"found": thing}, shelf.shut, thing)
                for many in (1, 0, None, True, [1]):
                    self.check_shelf_refuses(shelf, NotOpen, {"found": thing}, shelf.ask_lot, thing, many)


class Lots(ShelfCase):
    def test_lots(self):
        shelf = full_shelf()
        reading = shelf.open_up("paged")
        self.check_told(shelf.ask_lot(reading, 4), [0, 1, 2, 3])
        self.check_told(shelf.ask_lot(many=1, reading=reading), [4])
        self.check_told(shelf.ask(reading), 5)
        self.check_told(shelf.ask_lot(reading, 400), [6, 7, 8, 9])
        self.check_refused(Over, {}, shelf.ask_lot, reading, 400)
        self.check_told(shelf.log(), [
            ("open", 0, "paged"), ("load", 0, 0), ("load", 0, 1), ("ask", 0, 0, 4), ("ask", 0, 4, 1), ("ask", 0, 5, 1),
            ("load", 0, 2), ("load", 0, 3), ("ask", 0, 6, 4), ("end", 0)])

    def test_four_hundred(self):
        shelf = full_shelf()
        reading = shelf.open_up("deep")
        told = shelf.ask_lot(reading, 400)
        self.check_told(told, list(range(399)))
        self.check_refused(Fault, {"name": "deep", "at": 399}, shelf.ask_lot, reading, 400)
        self.check_told(shelf.ask_lot(reading, 400), list(range(399, 799)))
        self.check_told(shelf.log()[-1], ("ask", 0, 399, 400))
        self.check_told((shelf.told_of("deep"), shelf.loads("deep")), (799, 160))

    def test_ahead_of_a_fault(self):
        shelf = full_shelf()
        reading = shelf.open_up("faulty")
        for _ in range(2):
            self.check_refused(Fault, {"name": "faulty", "at": 0}, shelf.ask_lot, reading, 3)
        self.check_told(shelf.ask_lot(reading, 3), [4, 5])
        self.check_told(shelf.loads("faulty"), 1)
        self.check_refused(Fault, {"name": "faulty", "at": 2}, shelf.ask_lot, reading, 3)
        self.check_told(shelf.loads("faulty"), 2)
        self.check_told(shelf.log(), [
            ("open", 0, "faulty"), ("load", 0, 0), ("fault", 0, 0), ("fault", 0, 0), ("ask", 0, 0, 2), ("load", 0, 1),
            ("fault", 0, 2)])

    def test_a_thing_whose_faults_wore_off_is_in_the_lot(self):
        shelf = full_shelf()
        reading = shelf.open_up("wears")
        self.check_told(shelf.ask_lot(reading, 2), [8])
        self.check_refused(Fault, {"name": "wears", "at": 1}, shelf.ask_lot, reading, 2)
        self.check_told(shelf.ask_lot(reading, 20), [9, 10])
        for _ in range(9):
            self.check_refused(Fault, {"name": "wears", "at": 3}, shelf.ask_lot, reading, 2)
        self.check_told(shelf.ask_lot(reading, 20), list(range(11, 28)))

    def test_how_many(self):
        shelf = full_shelf()
        reading = shelf.open_up("on")
        at_end = shelf.open_up("empty")
        for thing in (*odd_things(), 0, 401, -1, 10 ** 29, "1"):
            if isinstance(thing, int) and not isinstance(thing, bool) and 1 <= thing <= 400:
                continue
            for number in (reading, at_end):
                self.check_shelf_refuses(shelf, NoNumber, {"found": thing}, shelf.ask_lot, number, thing)
        for many in (1, 2, 399, 400):
            self.assertEqual(len(shelf.ask_lot(reading, many)), many)

    def test_lots_are_new_lists(self):
        shelf = full_shelf()
        one, other = shelf.open_up("plain"), shelf.open_up("plain")
        told = shelf.ask_lot(one, 2)
        told.append(9)
        self.check_told(shelf.ask_lot(other, 2), [5, 6])
        self.check_told(shelf.ask_lot(one, 2), [7])


class Shut(ShelfCase):
    def test_well(self):
        shelf = full_shelf()
        reading = shelf.open_up("plain")
        shelf.ask(reading)
        self.assertIs(shelf.shut(reading=reading), None)
        self.assertIs(shelf.is_open(reading), False)
        self.check_told((shelf.place(reading), shelf.name_of(reading)), (1, "plain"))
        self.check_told(shelf.log()[-1], ("shut", 0))
        for call in (shelf.shut, shelf.ask):
            self.check_shelf_refuses(shelf, NotOpen, {"found": reading}, call, reading)

    def test_badly(self):
        shelf = full_shelf()
        one, other = shelf.open_up("bad"), shelf.open_up("bad")
        self.check_refused(NotShut, {"found": "bad"}, shelf.shut, one)
        self.assertIs(shelf.is_open(one), False)
        self.assertIs(shelf.is_open(other), True)
        self.check_told(shelf.open_ones(), [1])
        self.check_told(shelf.log()[-1], ("badly", 0))
        self.check_shelf_refuses(shelf, NotOpen, {"found": one}, shelf.shut, one)
        self.assertEqual(shelf.ask(other), 1)


class Tells(ShelfCase):
    def test_open_readings(self):
        shelf = full_shelf()
        for _ in range(4):
            shelf.open_up("plain")
        shelf.shut(2)
        shelf.shut(0)
        self.check_told(shelf.open_ones(), [1, 3])
        for thing in odd_things():
            self.assertIs(shelf.is_open(thing), isinstance(thing, int) and thing is not True and thing in (1, 3))
        for number in range(-5, 8):
            self.assertIs(shelf.is_open(thing=number), number in (1, 3))

    def test_what_is_no_reading(self):
        for many in (0, 2):
            shelf = full_shelf()
            for _ in range(many):
                shelf.open_up("plain")
            for thing in (*odd_things(), many, -1, -2, 10 ** 29, "0"):
                if not isinstance(thing, int) or isinstance(thing, bool) or not 0 <= thing < many:
                    self.check_shelf_refuses(shelf, NotThere, {"found": thing}, shelf.place, thing)
                    self.check_shelf_refuses(shelf, NotThere, {"found": thing}, shelf.name_of, thing)
                    self.check_shelf_refuses(shelf, NotThere, {"found": thing}, shelf.name_of, reading=thing)

    def test_told_and_loaded_by_name(self):
        shelf = Shelf()
        for name in ("a", "b"):
            shelf.put_up(name, SOURCES["paged"])
        for name, many in (("a", 4), ("b", 1), ("a", 2)):
            shelf.ask_lot(shelf.open_up(name), many)
        shelf.shut(0)
        self.check_told([shelf.told_of("a"), shelf.told_of("b")], [6, 1])
        self.check_told([shelf.loads("a"), shelf.loads(name="b")], [3, 1])

    def test_telling_changes_nothing(self):
        shelf = full_shelf()
        shelf.open_up("on")
        before = shown(state(shelf))
        for _ in range(3):
            self.assertEqual(shown(state(shelf)), before)
        self.assertEqual(shelf.log(), [("open", 0, "on")])


class Copies(ShelfCase):
    def test_a_copy_goes_its_own_way(self):
        shelf = full_shelf()
        for name in ("wears", "plain", "bad"):
            shelf.ask(shelf.open_up(name))
        self.check_refused(Fault, {"name": "wears", "at": 1}, shelf.ask, 0)
        shelf.shut(1)
        other = shelf.copied()
        self.assertEqual(shown(state(other)), shown(state(shelf)))
        self.assertIs(other == shelf, True)
        before = shown(state(shelf))
        self.check_told(other.ask_lot(0, 5), [9, 10])
        self.check_refused(Fault, {"name": "wears", "at": 3}, other.ask, 0)
        self.check_refused(NotShut, {"found": "bad"}, other.shut, 2)
        self.assertEqual(other.open_up("on"), 3)
        self.assertEqual(shown(state(shelf)), before)
        self.assertIs(other == shelf, False)
        self.check_told(shelf.ask_lot(0, 5), [9, 10])
        for _ in range(9):
            self.check_refused(Fault, {"name": "wears", "at": 3}, shelf.ask, 0)
        self.assertEqual(shelf.ask(0), 11)
        self.check_refused(Fault, {"name": "wears", "at": 3}, other.ask, 0)

    def test_sources_of_a_copy(self):
        shelf = Shelf()
        shelf.put_up("a", SOURCES["plain"])
        other = shelf.copied()
        shelf.put_up("b", SOURCES["on"])
        other.put_up("c", SOURCES["bad"])
        self.check_told((shelf.names(), other.names()), (["a", "b"], ["a", "c"]))
        self.assertIs(other.source("c"), SOURCES["bad"])


class Equal(ShelfCase):
    def make(self, names, calls):
        shelf = Shelf()
        for name, source in names:
            shelf.put_up(name, source)
        for call, *args in calls:
            vars(Shelf)[call](shelf, *args)
        return shelf

    def test_equal_and_unlike(self):
        plain, same, on = Source([5, 6, 7]), Source((5, 6, 7), faults={}), SOURCES["on"]
        opened = [("open_up", "a")]
        kinds = [
            ([], []), ([("a", plain)], []), ([("b", plain)], []), ([("a", on)], []), ([("a", plain), ("b", on)], []),
            ([("b", on), ("a", plain)], []), ([("a", on), ("b", plain)], []), ([("a", plain)], opened),
            ([("a", plain)], opened * 2), ([("a", plain)], [*opened, ("ask", 0)]),
            ([("a", plain)], [*opened, ("ask", 0), ("ask", 0)]), ([("a", plain)], [*opened, ("ask_lot", 0, 2)]),
            ([("a", plain)], [*opened, ("shut", 0)]), ([("a", on)], opened),
        ]
        for one, other in itertools.product(range(len(kinds)), repeat=2):
            first = self.make(*kinds[one])
            names, calls = kinds[other]
            second = self.make([(name, same if source is plain else source) for name, source in names], calls)
            self.assertIs(first == second, one == other, (one, other))
            self.assertIs(first != second, one != other, (one, other))

    def test_a_lot_of_one_is_an_ask(self):
        one = self.make([("a", SOURCES["on"])], [("open_up", "a"), ("ask", 0)])
        other = self.make([("a", SOURCES["on"])], [("open_up", "a"), ("ask_lot", 0, 1)])
        self.assertIs(one == other, True)

    def test_other_things(self):
        shelf = full_shelf()
        for thing in (*odd_things(), shelf.log(), SOURCES["on"]):
            self.assertIs(shelf == thing, False)
            self.assertIs(shelf != thing, True)
        self.assertIs(Shelf() == [], False)


class CalledOtherwise(ShelfCase):
    def do(self, names):
        shelf = Shelf()
        for name, source in zip(names, (SOURCES["faulty"], SOURCES["wears"])):
            shelf.put_up(name, source)
        told = []
        for name in (names[1], names[0], names[1]):
            reading = shelf.open_up(name)
            for call, args in ((shelf.ask, ()), (shelf.ask_lot, (5,)), (shelf.ask, ()), (shelf.shut, ())):
                try:
                    told.append(call(reading, *args))
                except Fault as fault:
                    told.append((names.index(fault.name), fault.at))
                except NotShut as refusal:
                    told.append(names.index(refusal.found))
        rows = [(*row[:2], names.index(row[2])) if row[0] == "open" else row for row in shelf.log()]
        return told, rows, [(shelf.told_of(name), shelf.loads(name)) for name in names]

    def test_all_is_told_likewise(self):
        expected = self.do(["a", "b"])
        for names in (["b", "a"], ["x", "abcdefgh"], ["shut", "open"]):
            self.check_told(self.do(names), expected)


class ByTheModel(ShelfCase):
    def check_way(self, chance, names):
        shelf = full_shelf()
        models, log = [], []
        for _ in range(60):
            turn = chance.randrange(6)
            if turn == 0 or not models:
                name = chance.choice(names)
                self.assertEqual(shelf.open_up(name), len(models))
                models.append(Model(len(models), name))
                log.append(("open", len(models) - 1, name))
                continue
            model = chance.choice(models)
            if not model.is_open:
                self.check_shelf_refuses(shelf, NotOpen, {"found": model.number}, shelf.ask, model.number)
            elif turn == 1 and chance.randrange(3) == 0:
                model.is_open = False
                log.append(("badly" if model.bad else "shut", model.number))
                if model.bad:
                    self.check_refused(NotShut, {"found": model.name}, shelf.shut, model.number)
                else:
                    shelf.shut(model.number)
            else:
                self.check_ask(chance, shelf, model, log)
            self.check_told(shelf.log(), log)
            if chance.randrange(5) == 0:
                shelf = shelf.copied()
        self.check_end(shelf, models, log)

    def check_ask(self, chance, shelf, model, log):
        many = chance.choice((None, 1, 2, 3, 7, 30))
        at = model.place
        expected = model.ask(log, 1 if many is None else many)
        call, args = (shelf.ask, ()) if many is None else (shelf.ask_lot, (many,))
        if expected == "end":
            self.check_refused(Over, {}, call, model.number, *args)
        elif expected == "fault":
            self.check_refused(Fault, {"name": model.name, "at": at}, call, model.number, *args)
        else:
            self.check_told(call(model.number, *args), expected[0] if many is None else expected)

    def check_end(self, shelf, models, log):
        self.check_told(shelf.log(), log)
        self.check_told(shelf.open_ones(), [model.number for model in models if model.is_open])
        for model in models:
            self.check_told(shelf.place(model.number), model.place)
            self.check_told(shelf.name_of(model.number), model.name)
            self.assertIs(shelf.is_open(model.number), model.is_open)
        for name in SOURCES:
            self.check_told(shelf.told_of(name), sum(model.place for model in models if model.name == name))
            self.check_told(shelf.loads(name), sum(len(model.loaded) for model in models if model.name == name))

    def test_many_ways(self):
        for seed in range(150):
            chance = random.Random(seed)
            self.check_way(chance, chance.sample(list(SOURCES), 3))


if __name__ == "__main__":
    unittest.main()
