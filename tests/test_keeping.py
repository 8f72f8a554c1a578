"""Points 81 and 85: kept rows."""

import unittest

from greatrows.errors import Fault, NoNumber, NoRow, NotThere, Over, Thrown, TooMuch, Waits
from greatrows.keeping import Kept
from greatrows.parted import Reader
from greatrows.rows import row_of
from greatrows.shelves import Shelf
from greatrows.sources import Source
from helpers import Case, answer, odd_things, shelf_of
from made_readers import A, B, COUNT, ON, Told, is_reader, is_room, readers, some_reader


class Account:
    """What a Kept must be told, where so many asks of its reader come to this."""

    def __init__(self, told, room):
        self.told, self.room = told, room
        self.things = []
        self.at = 0
        self.ending = None
        self.marks = set()
        self.place = 0
        self.is_over = False
        self.is_closed = False

    def held(self):
        return 0 if self.is_closed else len(self.things) - min(self.place, *self.marks, self.place)

    def ask(self):
        if self.is_over:
            return ("over",)
        if self.place == len(self.things) and self.ending is None:
            if self.held() == self.room:
                return ("waits", self.room)
            if self.at == len(self.told):
                return None
            came = self.told[self.at]
            self.at += 1
            if came[0] == "waits":
                return came
            if came[0] == "thing":
                self.things.append(came[1])
            else:
                self.ending = came
        if self.place == len(self.things):
            self.is_over = True
            return self.ending
        self.place += 1
        return ("thing", self.things[self.place - 1])

    def mark(self):
        if self.is_closed:
            return ("over",)
        self.marks.add(self.place)
        return ("thing", self.place)

    def back(self, mark):
        if mark in self.marks:
            self.place, self.is_over = mark, False

    def close(self):
        self.is_closed = self.is_over = True
        self.marks = set()


class WholeRows(Case):
    def test_any_way_there_and_back(self):
        kinds = set()
        for chance, _, _, reader, told in readers(1500, seed=85):
            room = chance.choice((None, 1, 2, 5, 60))
            kept, account = Kept(reader, room=room), Account(told, room)
            for _ in range(chance.randint(0, 60)):
                deed = chance.choice(("ask", "ask", "ask", "ask", "ask", "mark", "back", "back", "release"))
                deed = "close" if chance.random() < 0.01 else deed
                at = chance.choice((*account.marks, 0, 3))
                if deed == "ask":
                    came, due = answer(kept.ask), account.ask()
                    if due is None:
                        break
                    self.check_told(came, due)
                    kinds.add(came[0])
                elif deed == "mark":
                    self.check_told(answer(kept.mark), account.mark())
                elif deed == "close":
                    self.assertIn(answer(kept.close)[0], ("thing", "not shut"))
                    account.close()
                elif at not in account.marks:
                    self.check_refused(NotThere, {"found": at}, kept.back if deed == "back" else kept.release, at)
                elif deed == "back":
                    self.assertIs(kept.back(at), None)
                    account.back(at)
                else:
                    self.assertIs(kept.release(at), None)
                    account.marks.discard(at)
                self.check_told([kept.place(), kept.is_over(), kept.marks(), kept.held()],
                                [account.place, account.is_over, sorted(account.marks), account.held()])
        self.assertEqual(kinds, {"thing", "over", "fault", "much", "waits"})

    def test_each_opened_reading_is_shut_once(self):
        for chance, shelf, _, reader, _ in readers(200, seed=86, by_kinds=False):
            kept = Kept(reader)
            for _ in range(chance.randint(0, 20)):
                answer(kept.ask)
            many = len(shelf.log())
            came = [answer(kept.close), answer(kept.close)]
            bad = len([row for row in shelf.log()[many:] if row[0] == "badly"])
            self.assertEqual(came[0][0], "not shut" if bad else "thing")
            self.assertEqual(len(came[0][1] or ()), bad)
            self.check_told(came[1], ("thing", None))
            self.assertEqual(shelf.open_ones(), [])


class Marks(Case):
    def test_marks_made_gone_back_to_and_taken_away(self):
        row = row_of(COUNT, Shelf())
        kept = Kept(row)
        self.check_told([kept.marks(), kept.place(), kept.mark(), kept.marks()], [[], 0, 0, [0]])
        self.check_told([kept.ask(), kept.ask(), kept.mark(), kept.ask(), kept.marks()], [0, 1, 2, 2, [0, 2]])
        self.check_told([kept.held(), kept.back(0), kept.place(), kept.ask(), kept.mark()], [3, None, 0, 0, 1])
        self.check_told([kept.marks(), kept.back(mark=2), kept.ask(), kept.ask(), row.told_many()], [[0, 1, 2], None, 2, 3, 4])
        self.check_told([kept.release(0), kept.marks(), kept.held()], [None, [1, 2], 3])
        self.check_told([kept.release(mark=2), kept.back(1), kept.release(1), kept.marks(), kept.held()],
                        [None, None, None, [], 3])
        self.check_told([kept.ask(), kept.held(), kept.ask(), kept.ask(), kept.held(), kept.ask()], [1, 2, 2, 3, 0, 4])

    def test_a_place_has_one_mark_at_most(self):
        kept = Kept(some_reader())
        kept.ask()
        self.check_told([kept.mark(), kept.mark(), kept.marks()], [1, 1, [1]])
        kept.release(1)
        self.check_told(kept.marks(), [])
        self.check_refused(NotThere, {"found": 1}, kept.release, 1)
        self.check_refused(NotThere, {"found": 1}, kept.back, 1)

    def test_what_is_no_mark(self):
        kept = Kept(some_reader())
        for _ in range(3):
            kept.mark()
            kept.ask()
        kept.release(2)
        for thing in [*odd_things(), 2, 3]:
            for call in (kept.back, kept.release):
                if thing is True or thing is False or thing not in (0, 1):
                    self.check_refused(NotThere, {"found": thing}, call, thing)
                    self.check_refused(NotThere, {"found": thing}, call, mark=thing)
        self.check_told([kept.marks(), kept.place()], [[0, 1], 3])

    def test_marks_is_a_new_list(self):
        kept = Kept(some_reader())
        kept.mark()
        kept.marks().clear()
        self.check_told(kept.marks(), [0])

    def test_a_fault_and_an_end_are_told_again(self):
        for ending, told in ((Fault("a", 2), ("fault", "a", 2)), (TooMuch(3), ("much", 3)), (Thrown("w"), ("thrown", "w")),
                             (Over(), ("over",))):
            reader = Told([5, 6], ending)
            kept = Kept(reader)
            kept.ask()
            kept.mark()
            for _ in range(3):
                self.check_told([kept.is_over(), kept.ask(), answer(kept.ask), kept.is_over()], [False, 6, told, True])
                self.check_told([answer(kept.ask), kept.place(), kept.back(1)], [("over",), 2, None])
            self.check_told(reader.asks, 3)
            self.check_told([kept.ask(), answer(kept.ask), kept.mark(), kept.marks()], [6, told, 2, [1, 2]])
            self.check_told([kept.is_over(), kept.back(2), kept.is_over(), answer(kept.ask)], [True, None, False, told])
            self.check_told([kept.held(), kept.release(1), kept.held()], [1, None, 0])

    def test_waits_of_the_reader(self):
        kept = Kept(row_of(("chosen", (((("rest", 250),), "is", 249, True),), COUNT), Shelf()))
        kept.mark()
        self.check_refused(Waits, {"many": 200}, kept.ask)
        self.check_told([kept.ask(), kept.held(), kept.is_over(), answer(kept.ask)], [249, 1, False, ("waits", 200)])
        self.check_told([kept.back(0), kept.ask(), kept.ask(), kept.place()], [None, 249, 499, 2])

    def test_what_was_told_ahead(self):
        row = row_of(COUNT, Shelf())
        row.ask()
        kept = Kept(row)
        self.check_told([kept.mark(), kept.ask(), kept.place(), kept.back(0), kept.ask()], [0, 1, 1, None, 1])


class Rooms(Case):
    def test_without_marks_nothing_is_held(self):
        kept = Kept(some_reader(), room=1)
        for at in range(5):
            self.check_told([kept.ask(), kept.held()], [at, 0])

    def test_a_room_of_1_and_of_60(self):
        for room in (1, 60):
            row = row_of(COUNT, Shelf())
            kept = Kept(row, room=room)
            kept.ask()
            kept.mark()
            for at in range(room):
                self.check_told(kept.ask(), at + 1)
            for _ in range(2):
                self.check_refused(Waits, {"many": room}, kept.ask)
                self.check_told([kept.held(), kept.is_over(), row.told_many()], [room, False, room + 1])
            kept.back(1)
            for at in range(room):
                self.check_told(kept.ask(), at + 1)
            self.check_refused(Waits, {"many": room}, kept.ask)
            kept.release(1)
            self.check_told([kept.held(), kept.ask(), kept.held()], [0, room + 1, 0])

    def test_no_room_at_all_is_no_bound(self):
        for named in ({}, {"room": None}):
            kept = Kept(some_reader(), **named)
            kept.mark()
            for _ in range(300):
                kept.ask()
            self.check_told(kept.held(), 300)

    def test_no_room_is_needed_for_an_ending_that_was_met(self):
        kept = Kept(Told([1], Fault("a", 1)), room=1)
        kept.ask()
        self.check_told([answer(kept.ask), kept.mark()], [("fault", "a", 1), 1])
        kept = Kept(Told([1, 2], Fault("a", 2)), room=2)
        kept.ask()
        kept.mark()
        self.check_told([kept.ask(), answer(kept.ask), kept.back(1), kept.ask(), answer(kept.ask), kept.held()],
                        [2, ("fault", "a", 2), None, 2, ("fault", "a", 2), 1])
        kept = Kept(Told([1]), room=1)
        kept.mark()
        kept.ask()
        self.check_refused(Waits, {"many": 1}, kept.ask)


class Closed(Case):
    def test_closed(self):
        for bad in (False, True):
            shelf = shelf_of(a=Source([1], then=ON, close_fault=bad), b=Source([5], then=ON))
            row = row_of(("merged", A, B), shelf)
            kept = Kept(row)
            kept.mark()
            kept.ask()
            kept.mark()
            kept.ask()
            self.check_told(answer(kept.close), ("not shut", ["a"]) if bad else ("thing", None))
            self.check_told([kept.is_over(), kept.held(), kept.marks(), kept.place()], [True, 0, [], 2])
            self.check_told([row.is_over(), shelf.open_ones(), kept.close()], [True, [], None])
            self.check_refused(Over, {}, kept.mark)
            self.check_refused(Over, {}, kept.ask)
            self.check_refused(NotThere, {"found": 0}, kept.back, 0)
            self.check_refused(NotThere, {"found": 1}, kept.release, 1)
            self.check_told([kept.is_over(), kept.marks(), kept.held()], [True, [], 0])

    def test_closed_behind_the_end_and_gone_back(self):
        reader = Told([1, 2], bad=["a"])
        kept = Kept(reader)
        kept.mark()
        for _ in range(3):
            answer(kept.ask)
        kept.back(0)
        self.check_told([kept.held(), kept.close(), kept.held(), kept.is_over(), reader.closings], [2, None, 0, True, 0])
        self.check_told(answer(kept.ask), ("over",))

    def test_closed_behind_the_last_thing(self):
        reader = Told([1])
        kept = Kept(reader)
        self.check_told([kept.ask(), kept.close(), kept.close(), reader.closings], [1, None, None, 1])

    def test_closed_ahead_of_the_first_ask(self):
        kept = Kept(some_reader())
        self.check_told([kept.close(), kept.is_over(), answer(kept.ask), answer(kept.mark)],
                        [None, True, ("over",), ("over",)])


class Refused(Case):
    def test_refused(self):
        for thing in odd_things():
            if not is_reader(thing):
                for room in (None, 0, True):
                    self.check_refused(NoRow, {"found": thing}, Kept, thing, room=room)
                self.check_refused(NoRow, {"found": thing}, Kept, room=1, row=thing)
            if not is_room(thing):
                self.check_refused(NoNumber, {"found": thing}, Kept, some_reader(), room=thing)
                self.check_refused(NoNumber, {"found": thing}, Kept, room=thing, row=some_reader())
        for room in (0, 61, True, False):
            self.check_refused(NoNumber, {"found": room}, Kept, some_reader(), room=room)
        for room in (1, 60, None):
            self.assertIsInstance(Kept(some_reader(), room=room), Reader)
        self.check_refused(NoRow, {"found": Kept}, Kept, Kept)
        reader = Told([1])
        self.check_refused(NoNumber, {"found": 0}, Kept, reader, room=0)
        self.check_told([reader.asks, reader.closings], [0, 0])


if __name__ == "__main__":
    unittest.main()
