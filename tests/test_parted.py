"""Points 81 to 84: readers, rows parted among hands, and by kinds."""

import unittest

from greatrows.deeds import is_deeds, turned_by
from greatrows.errors import (
    Fault, NoDeeds, NoNumber, NoRow, NotShut, NotThere, NoThing, Over, Thrown, TooMuch, Waits,
)
from greatrows.keeping import Kept
from greatrows.parted import Hand, Kinds, Parted, Reader
from greatrows.rows import row_of
from greatrows.shelves import Shelf
from greatrows.sources import Source
from greatrows.things import is_thing, is_whole
from helpers import Case, answer, odd_things, shelf_of, shown
from made_readers import A, B, COUNT, ON, Told, is_reader, is_room, readers, some_reader

HALF = (("rest", 2),)


class Readers(Case):
    def test_a_reader_by_itself(self):
        reader = Reader()
        self.check_told([reader.is_over(), reader.place()], [False, 0])
        for _ in range(2):
            self.check_refused(Over, {}, reader.ask)
            self.check_told([reader.is_over(), reader.place()], [True, 0])
        self.assertIs(reader.close(), None)
        other = Reader()
        self.assertIs(other.close(), None)
        self.assertIs(other.close(), None)
        self.assertIs(other.is_over(), True)
        self.check_refused(Over, {}, other.ask)

    def test_a_reader_by_itself_is_one_to_stand_on(self):
        for reader in (Parted(Reader(), 2).hand(1), Kinds(Reader(), ()).hand(0), Kept(Reader())):
            self.check_refused(Over, {}, reader.ask)
            self.assertIs(reader.is_over(), True)

    def test_what_stands_under_reader(self):
        self.assertEqual([Hand.__bases__, Kept.__bases__], [(Reader,), (Reader,)])
        self.assertIsInstance(Parted(some_reader(), 1).hand(0), Hand)
        self.assertIsInstance(Kinds(some_reader(), ()).hand(0), Reader)

    def test_a_reader_is_over_where_it_was_refused_or_closed(self):
        for make in (lambda row: Parted(row, 2).hand(0), lambda row: Kinds(row, (("times", 0),)).hand(0), Kept):
            for ending, told in ((Over(), ("over",)), (Fault("a", 3), ("fault", "a", 3)), (TooMuch(2), ("much", 2)),
                                 (Thrown("w"), ("thrown", "w"))):
                reader = make(Told([4, Waits(200), 5], ending))
                self.check_told([answer(reader.ask), reader.place(), reader.is_over()], [("thing", 4), 1, False])
                self.check_told([answer(reader.ask), reader.place(), reader.is_over()], [("waits", 200), 1, False])
                self.check_told([answer(reader.ask), reader.place(), reader.is_over()], [("thing", 5), 2, False])
                self.check_told([answer(reader.ask), reader.place(), reader.is_over()], [told, 2, True])
                self.check_told([answer(reader.ask), reader.place(), reader.is_over()], [("over",), 2, True])
            reader = make(Told([4]))
            self.check_told([reader.close(), reader.is_over(), answer(reader.ask)], [None, True, ("over",)])

    def test_readers_on_readers(self):
        shelf = shelf_of(a=Source([1, 2, 3, 4, 5, 6, 7], close_fault=True))
        row = row_of(A, shelf)
        parted = Parted(Kept(row), 2)
        kinds = Kinds(parted.hand(1), HALF)
        odd = Kept(kinds.hand(1))
        self.check_told([odd.ask(), odd.mark(), odd.ask(), odd.ask(), odd.back(1), odd.ask()], [1, 1, 3, 5, None, 3])
        self.check_told([kinds.waiting(0), parted.held(), parted.told_many(), row.told_many()], [2, 5, 5, 5])
        self.check_told([parted.hand(0).ask(), kinds.hand(0).ask(), parted.held()], [1, 2, 4])
        parted.hand(0).close()
        self.check_told([parted.held(), shelf.open_ones()], [0, [0]])
        with self.assertRaises(NotShut) as caught:
            kinds.close()
        self.check_told([caught.exception.found, shelf.open_ones(), row.is_over()], [["a"], [], True])


class Hands(Case):
    def test_hands_in_any_order_are_told_what_an_account_has(self):
        kinds = set()
        for chance, _, _, reader, told in readers(900, seed=82):
            room = chance.choice((None, None, 1, 2, 5, 60))
            parted = Parted(reader, chance.randint(1, 6), room=room)
            account = PartedAccount(told, parted.hands(), room)
            for _ in range(chance.randint(0, 60)):
                at = chance.randrange(parted.hands())
                if chance.random() < 0.03:
                    came = answer(parted.hand(at).close)
                    self.assertIn(came[0], ("thing", "not shut"))
                    account.close(at)
                else:
                    came = answer(parted.hand(at).ask)
                    self.check_told(came, account.ask(at))
                    kinds.add(came[0])
                self.check_told([parted.held(), parted.told_many()], [account.held(), account.many()])
                self.check_told([hand.place() for hand in map(parted.hand, range(parted.hands()))], account.places)
                self.check_told([hand.is_over() for hand in map(parted.hand, range(parted.hands()))], account.over)
                self.assertEqual(reader.is_over(), account.ending is not None or all(account.over))
                if len(account.came) == len(told) and not account.ending:
                    break
        self.assertEqual(kinds, {"thing", "over", "fault", "much", "waits"})

    def test_each_opened_reading_is_shut_once(self):
        for chance, shelf, _, reader, _ in readers(200, seed=83, by_kinds=False):
            parted = Parted(reader, 3)
            for _ in range(chance.randint(0, 30)):
                answer(parted.hand(chance.randrange(3)).ask)
            order = [0, 1, 2, 1, 0]
            chance.shuffle(order)
            before = shelf.log()
            came = []
            for at in [*order, 0, 1, 2]:
                came.append(answer(parted.hand(at).close))
            names = [each[1] for each in came if each[0] == "not shut"]
            shut = [row for row in shelf.log()[len(before):] if row[0] == "badly"]
            self.assertEqual([len(names), len(sum(names, []))], [min(len(shut), 1), len(shut)])
            self.assertEqual(shelf.open_ones(), [])

    def test_a_room_of_1(self):
        parted = Parted(row_of(COUNT, Shelf()), 2, room=1)
        one, other = parted.hand(0), parted.hand(1)
        self.check_told([one.ask(), parted.held()], [0, 1])
        for _ in range(2):
            self.check_refused(Waits, {"many": 1}, one.ask)
            self.check_told([one.is_over(), one.place(), parted.held(), parted.told_many()], [False, 1, 1, 1])
        self.check_told([other.ask(), parted.held(), other.ask(), parted.held()], [0, 0, 1, 1])
        self.check_refused(Waits, {"many": 1}, other.ask)
        self.check_told([one.ask(), one.ask(), parted.held()], [1, 2, 1])

    def test_a_room_of_60_and_none(self):
        parted = Parted(row_of(COUNT, Shelf()), 3, room=60)
        for at in range(60):
            self.check_told(parted.hand(2).ask(), at)
        self.check_refused(Waits, {"many": 60}, parted.hand(2).ask)
        parted.hand(0).ask()
        self.check_refused(Waits, {"many": 60}, parted.hand(2).ask)
        parted.hand(1).close()
        self.check_told([parted.hand(2).ask(), parted.held()], [60, 60])
        for room in ({}, {"room": None}):
            parted = Parted(row_of(COUNT, Shelf()), 2, **room)
            for at in range(300):
                parted.hand(1).ask()
            self.check_told([parted.held(), parted.told_many()], [300, 300])

    def test_one_hand_alone_needs_no_room(self):
        parted = Parted(row_of(COUNT, Shelf()), 1, room=1)
        for at in range(9):
            self.check_told([parted.hand(0).ask(), parted.held()], [at, 0])

    def test_no_room_is_needed_for_an_ending_that_was_met(self):
        reader = Told([1], Fault("a", 1))
        parted = Parted(reader, 3, room=1)
        parted.hand(0).ask()
        parted.hand(1).ask()
        self.check_refused(Waits, {"many": 1}, parted.hand(0).ask)
        self.check_told([parted.hand(2).ask(), answer(parted.hand(2).ask), reader.asks], [1, ("fault", "a", 1), 2])
        self.check_told([answer(parted.hand(0).ask), answer(parted.hand(1).ask)], [("fault", "a", 1)] * 2)
        reader = Told([1])
        parted = Parted(reader, 2, room=1)
        self.check_told([parted.hand(0).ask(), parted.hand(1).ask(), answer(parted.hand(1).ask)], [1, 1, ("over",)])
        self.check_told([answer(parted.hand(0).ask), parted.hand(0).is_over(), reader.asks], [("over",), True, 2])

    def test_a_fault_goes_out_to_each_hand_once(self):
        shelf = shelf_of(a=Source([1, 2], faults={1: 1}), b=Source([1, 2]))
        for plan, error, fields in (
                (("flat", A), Fault, {"name": "a", "at": 1}),
                (("behind", ("count", 1, 1, 1), ("matched", (), 1, B, B)), TooMuch, {"many": 1})):
            parted = Parted(row_of(plan, shelf), 2)
            one, other = parted.hand(0), parted.hand(1)
            self.check_told(one.ask(), 1)
            self.check_refused(error, fields, one.ask)
            self.check_refused(Over, {}, one.ask)
            self.check_told([one.is_over(), other.is_over(), parted.held(), other.ask()], [True, False, 1, 1])
            self.check_refused(error, fields, other.ask)
            self.check_refused(Over, {}, other.ask)
        word = Reader()
        parted = Parted(Told([], Thrown(word)), 2)
        for at in (1, 0):
            self.check_refused(Thrown, {"word": word}, parted.hand(at).ask)
            self.check_refused(Over, {}, parted.hand(at).ask)

    def test_what_a_closed_hand_alone_lacked_is_held_no_more(self):
        parted = Parted(row_of(COUNT, Shelf()), 3)
        for at, many in enumerate((5, 2, 0)):
            for _ in range(many):
                parted.hand(at).ask()
        self.check_told([parted.held(), parted.hand(2).close(), parted.held()], [5, None, 3])
        self.check_told([parted.hand(0).close(), parted.held(), parted.hand(1).ask(), parted.held()], [None, 3, 2, 2])
        self.check_told([parted.hand(1).close(), parted.held(), parted.told_many()], [None, 0, 5])

    def test_the_last_close_closes_the_reader(self):
        for bad in (False, True):
            shelf = shelf_of(a=Source([1], then=ON, close_fault=bad), b=Source([1], then=ON, close_fault=bad))
            row = row_of(("merged", A, B), shelf)
            parted = Parted(row, 3)
            parted.hand(1).ask()
            self.check_told([parted.hand(2).close(), parted.hand(0).close(), shelf.open_ones()], [None, None, [0, 1]])
            self.check_told([parted.hand(0).close(), row.is_over()], [None, False])
            told = answer(parted.hand(1).close)
            self.check_told(told, ("not shut", ["b", "a"]) if bad else ("thing", None))
            self.check_told([shelf.open_ones(), row.is_over(), parted.hand(1).is_over()], [[], True, True])
            for at in range(3):
                self.assertIs(parted.hand(at).close(), None)
                self.check_refused(Over, {}, parted.hand(at).ask)

    def test_a_reader_that_is_over_is_closed_no_more(self):
        for reader in (Told([1], bad=["a"]), Told([1], Fault("a", 1), bad=["a"])):
            parted = Parted(reader, 2)
            answer(parted.hand(0).ask)
            answer(parted.hand(0).ask)
            self.check_told([parted.hand(1).close(), parted.hand(0).close(), reader.closings], [None, None, 0])
        reader = Told([1])
        parted = Parted(reader, 1)
        parted.hand(0).ask()
        self.check_told([parted.hand(0).close(), parted.hand(0).close(), reader.closings], [None, None, 1])

    def test_the_reader_is_asked_when_the_first_hand_needs_a_thing(self):
        reader = Told([1, 2, 3])
        parted = Parted(reader, 2)
        self.assertEqual(reader.asks, 0)
        self.check_told([parted.hand(1).ask(), parted.hand(0).ask(), reader.asks], [1, 1, 1])
        self.check_told([parted.hand(0).ask(), reader.asks, parted.hand(1).ask(), reader.asks], [2, 2, 2, 2])

    def test_what_was_told_ahead_is_not_counted(self):
        row = row_of(COUNT, Shelf())
        row.ask()
        row.ask()
        parted = Parted(row, 2)
        self.check_told([parted.told_many(), parted.hand(1).ask(), parted.told_many(), parted.hand(1).place()], [0, 2, 1, 1])

    def test_hand_tells_the_same_hand(self):
        parted = Parted(some_reader(), 6)
        self.check_told(parted.hands(), 6)
        for at in range(6):
            self.assertIs(parted.hand(at), parted.hand(number=at))
        for thing in [*odd_things(), 6, -1]:
            if not is_whole(thing, 0, 5):
                self.check_refused(NotThere, {"found": thing}, parted.hand, thing)
                self.check_refused(NotThere, {"found": thing}, parted.hand, number=thing)

    def test_refused(self):
        for thing in odd_things():
            if not is_reader(thing):
                for many, room in ((1, None), (0, 0), (True, "a")):
                    self.check_refused(NoRow, {"found": thing}, Parted, thing, many, room=room)
                self.check_refused(NoRow, {"found": thing}, Parted, room=1, many=1, row=thing)
            if not is_whole(thing, 1, 6):
                for room in (None, 0, True):
                    self.check_refused(NoNumber, {"found": thing}, Parted, some_reader(), thing, room=room)
            if not is_room(thing):
                self.check_refused(NoNumber, {"found": thing}, Parted, some_reader(), 2, room=thing)
                self.check_refused(NoNumber, {"found": thing}, Parted, room=thing, many=6, row=some_reader())
        for many in (0, 7, True):
            self.check_refused(NoNumber, {"found": many}, Parted, some_reader(), many)
        for room in (0, 61, True, False):
            self.check_refused(NoNumber, {"found": room}, Parted, some_reader(), 1, room=room)
        for room in (1, 60, None):
            Parted(some_reader(), 1, room=room)
        self.check_refused(NoRow, {"found": Parted}, Parted, Parted, 1)
        whole = Parted(some_reader(), 1)
        self.check_refused(NoRow, {"found": whole}, Parted, whole, 1)
        reader = Told([1])
        self.check_refused(NoNumber, {"found": 0}, Parted, reader, 0)
        self.check_told([reader.asks, reader.closings], [0, 0])


class PartedAccount:
    """What hands must be told, where so many asks of the reader come to this."""

    def __init__(self, told, many, room):
        self.told, self.room = told, room
        self.came = []
        self.ending = None
        self.places = [0] * many
        self.over = [False] * many

    def things(self):
        return [each[1] for each in self.came if each[0] == "thing"]

    def many(self):
        return len(self.things())

    def held(self):
        return self.many() - min([place for place, over in zip(self.places, self.over) if not over] + [self.many()])

    def ask(self, at):
        if self.over[at]:
            return ("over",)
        if self.places[at] == self.many():
            if self.ending is None:
                if self.held() == self.room:
                    return ("waits", self.room)
                self.came.append(self.told[len(self.came)])
                if self.came[-1][0] == "waits":
                    return self.came[-1]
                if self.came[-1][0] != "thing":
                    self.ending = self.came[-1]
            if self.ending is not None:
                self.over[at] = True
                return self.ending
        self.places[at] += 1
        return ("thing", self.things()[self.places[at] - 1])

    def close(self, at):
        self.over[at] = True


class ByKinds(Case):
    def test_hands_in_any_order_are_told_what_an_account_has(self):
        kinds = set()
        for chance, _, _, reader, told in readers(900, seed=84):
            room = chance.choice((None, 1, 2, 5, 60))
            deeds = chance.choice(((), HALF, (("rest", 3),), (("times", 0),)))
            parted = Kinds(reader, deeds, room=room)
            account = KindsAccount(told, deeds, room)
            hands = [(kind, parted.hand(kind)) for kind in (0, 1, 1, 2, 3, (1, 2), chance.randint(-2, 9))]
            over = [False] * len(hands)
            for _ in range(chance.randint(0, 40)):
                at = chance.randrange(len(hands))
                kind, hand = hands[at]
                if chance.random() < 0.03:
                    self.assertIs(hand.close(), None)
                    account.closed.append(kind)
                    over[at] = True
                else:
                    came = answer(hand.ask)
                    due = ("over",) if over[at] else account.ask(kind)
                    if due is None:
                        break
                    self.check_told(came, due)
                    over[at] = over[at] or came[0] not in ("thing", "waits")
                    kinds.add(came[0])
                self.check_told([parted.held(), parted.kinds()], [len(account.lying()), account.kinds])
                self.check_told([parted.waiting(kind) for kind, _ in hands],
                                [account.lying().count(kind) for kind, _ in hands])
                self.check_told([hand.is_over() for _, hand in hands], over)
        self.assertEqual(kinds, {"thing", "over", "fault", "much", "waits"})

    def test_kinds_that_come_and_that_do_not(self):
        kinds = Kinds(row_of(("count", 0, 1, 5), Shelf()), HALF)
        self.check_told([kinds.kinds(), kinds.held(), kinds.waiting(0)], [[], 0, 0])
        self.check_told([kinds.hand(1).ask(), kinds.kinds(), kinds.held(), kinds.waiting(0)], [1, [0, 1], 1, 1])
        self.check_told([kinds.waiting(1), kinds.waiting((0,)), kinds.waiting(5)], [0, 0, 0])
        hand = kinds.hand(kind=2)
        self.check_refused(Over, {}, hand.ask)
        self.check_told([hand.is_over(), kinds.held(), kinds.waiting(kind=0), kinds.waiting(1)], [True, 4, 3, 1])
        zero = kinds.hand(0)
        self.check_told([zero.ask(), zero.ask(), zero.ask(), zero.place(), answer(zero.ask)], [0, 2, 4, 3, ("over",)])
        self.check_told([kinds.hand(1).ask(), kinds.held()], [3, 0])

    def test_kinds_of_things_themselves(self):
        kinds = Kinds(row_of(("windows", 2, ("from", "a")), shelf_of(a=Source([1, 1, 1, 2, 1, 1]))), ())
        self.check_told([kinds.hand((1, 2)).ask(), kinds.kinds()], [(1, 2), [(1, 1), (1, 2)]])
        self.check_told([kinds.waiting((1, 1)), kinds.hand((2, 1)).ask(), kinds.hand((1, 1)).ask()], [2, (2, 1), (1, 1)])
        self.check_refused(Over, {}, kinds.hand(12).ask)

    def test_several_hands_of_one_kind_share_what_waits(self):
        kinds = Kinds(row_of(COUNT, Shelf()), HALF)
        one, other = kinds.hand(0), kinds.hand(0)
        self.assertIsNot(one, other)
        self.check_told([one.ask(), other.ask(), other.ask(), one.ask(), one.place(), other.place()], [0, 2, 4, 6, 2, 2])
        self.check_told([kinds.hand(1).ask(), other.ask()], [1, 8])

    def test_a_kind_that_is_closed_amid(self):
        row = row_of(("count", 0, 1, 9), Shelf())
        kinds = Kinds(row, (("rest", 3),))
        one, other = kinds.hand(0), kinds.hand(0)
        self.check_told([kinds.hand(2).ask(), kinds.waiting(0), kinds.held()], [2, 1, 2])
        self.check_told([one.close(), kinds.waiting(0), kinds.held(), one.is_over()], [None, 0, 1, True])
        self.check_told([other.is_over(), answer(other.ask), other.is_over()], [False, ("over",), True])
        new = kinds.hand(0)
        self.check_told([new.is_over(), answer(new.ask), row.told_many()], [False, ("over",), 3])
        self.check_told([kinds.hand(2).ask(), kinds.waiting(0), kinds.held(), kinds.kinds()], [5, 0, 2, [0, 1, 2]])
        self.check_told([one.close(), other.close(), row.is_over()], [None, None, False])

    def test_a_kind_that_is_closed_ahead_of_its_first_thing(self):
        kinds = Kinds(row_of(COUNT, Shelf()), HALF)
        self.check_told([kinds.hand(1).close(), kinds.kinds()], [None, []])
        self.check_told([kinds.hand(0).ask(), kinds.hand(0).ask(), kinds.kinds(), kinds.held()], [0, 2, [0, 1], 0])

    def test_waits_of_the_room(self):
        for room in (1, 60):
            row = row_of(COUNT, Shelf())
            kinds = Kinds(row, (("rest", 100),), room=room)
            hand = kinds.hand(99)
            for _ in range(2):
                self.check_refused(Waits, {"many": room}, hand.ask)
                self.check_told([kinds.held(), row.told_many(), hand.is_over(), hand.place()], [room, room, False, 0])
            self.check_told([kinds.hand(0).ask(), kinds.held()], [0, room - 1])
            self.check_refused(Waits, {"many": room}, hand.ask)
            self.check_told([kinds.held(), row.told_many()], [room, room + 1])
        self.check_told(kinds.hand(1).ask(), 1)

    def test_a_thing_of_the_kind_itself_needs_no_room(self):
        kinds = Kinds(row_of(COUNT, Shelf()), HALF, room=1)
        self.check_told([kinds.hand(0).ask(), kinds.hand(1).ask(), kinds.hand(1).close(), kinds.hand(0).ask()], [0, 1, None, 2])
        self.check_told([kinds.hand(0).ask(), kinds.held()], [4, 0])

    def test_waits_of_200_counted_anew_in_each_ask(self):
        row = row_of(COUNT, Shelf())
        kinds = Kinds(row, (("rest", 450),), room=None)
        hand = kinds.hand(449)
        told = [(answer(hand.ask), row.told_many(), kinds.held()) for _ in range(4)]
        self.check_told(told, [(("waits", 200), 200, 200), (("waits", 200), 400, 400), (("thing", 449), 450, 449),
                               (("waits", 200), 650, 649)])
        for least, told in ((199, ("thing", 199)), (200, ("waits", 200))):
            self.check_told(answer(Kinds(row_of(COUNT, Shelf()), ()).hand(least).ask), told)

    def test_things_of_closed_kinds_count_too(self):
        row = row_of(COUNT, Shelf())
        kinds = Kinds(row, HALF, room=1)
        kinds.hand(0).close()
        kinds.hand(1).close()
        self.check_refused(Waits, {"many": 200}, kinds.hand(2).ask)
        self.check_told([row.told_many(), kinds.held(), kinds.kinds()], [200, 0, [0, 1]])

    def test_the_room_is_looked_at_ahead_of_the_200(self):
        for room, told in ((60, ("waits", 60)), (None, ("waits", 200))):
            kinds = Kinds(Told(range(900)), (("rest", 300),), room=room)
            for kind in range(140):
                if room:
                    kinds.hand(kind).close()
            self.check_told(answer(kinds.hand(299).ask), told)
        self.check_told(kinds.held(), 200)

    def test_waits_of_the_reader(self):
        row = row_of(("merged", ("count", 0, 1, 2), ("chosen", (((), "below", 300, False),), COUNT)), Shelf())
        kinds = Kinds(row, ())
        hand = kinds.hand(301)
        self.check_refused(Waits, {"many": 200}, hand.ask)
        self.check_told([kinds.held(), hand.is_over()], [0, False])
        self.check_told([hand.ask(), kinds.kinds(), kinds.held()], [301, [0, 1, 300, 301], 3])
        kinds = Kinds(Told([1, 2, Waits(7), 3]), ())
        self.check_refused(Waits, {"many": 7}, kinds.hand(3).ask)
        self.check_told([kinds.kinds(), kinds.held(), kinds.hand(1).ask(), kinds.hand(3).ask()], [[1, 2], 2, 1, 3])

    def test_a_fault_goes_out_to_the_ask_that_met_it(self):
        reader = Told([1, 2, 3, 4], Fault("a", 4))
        kinds = Kinds(reader, HALF)
        one, other, third = kinds.hand(1), kinds.hand(0), kinds.hand(2)
        self.check_told([one.ask(), one.ask()], [1, 3])
        self.check_refused(Fault, {"name": "a", "at": 4}, one.ask)
        self.check_told([one.is_over(), kinds.waiting(0), other.is_over()], [True, 2, False])
        self.check_refused(Over, {}, one.ask)
        self.check_told([other.ask(), other.ask(), answer(other.ask), answer(third.ask)], [2, 4, ("over",), ("over",)])
        self.check_told(reader.asks, 5)

    def test_closed_as_a_whole(self):
        for bad in (False, True):
            shelf = shelf_of(a=Source([1], then=ON, close_fault=bad))
            row = row_of(A, shelf)
            kinds = Kinds(row, (("rest", 3),))
            one, other = kinds.hand(0), kinds.hand(1)
            one.ask()
            self.check_told(kinds.held(), 2)
            self.check_told(answer(kinds.close), ("not shut", ["a"]) if bad else ("thing", None))
            self.check_told([row.is_over(), shelf.open_ones(), kinds.held(), kinds.waiting(1)], [True, [], 0, 0])
            self.check_told([kinds.kinds(), other.is_over(), answer(other.ask), other.is_over()],
                            [[1, 2, 0], False, ("over",), True])
            self.check_told([answer(one.ask), answer(kinds.hand(7).ask)], [("over",), ("over",)])
            self.check_told([kinds.close(), one.close(), kinds.held()], [None, None, 0])
        reader = Told([], bad=["a"])
        kinds = Kinds(reader, ())
        answer(kinds.hand(1).ask)
        self.check_told([kinds.close(), reader.closings], [None, 0])

    def test_nothing_is_asked_of_the_reader_behind_a_close(self):
        reader = Told([1, 2])
        kinds = Kinds(reader, ())
        hand = kinds.hand(2)
        kinds.close()
        self.check_told([answer(hand.ask), answer(kinds.hand(1).ask), reader.asks], [("over",), ("over",), 0])
        kinds = Kinds(reader, ())
        kinds.hand(2).close()
        self.check_told([answer(kinds.hand(2).ask), reader.asks], [("over",), 0])

    def test_a_close_ahead_of_the_end_of_what_waits(self):
        reader = Told([1, 2])
        kinds = Kinds(reader, ())
        answer(kinds.hand(3).ask)
        self.check_told([kinds.held(), kinds.close(), kinds.held(), answer(kinds.hand(1).ask)], [2, None, 0, ("over",)])
        self.check_told(reader.asks, 3)

    def test_lists_are_new_ones(self):
        kinds = Kinds(some_reader(), ())
        kinds.hand(2).ask()
        kinds.kinds().clear()
        self.check_told(kinds.kinds(), [0, 1, 2])

    def test_refused(self):
        for thing in odd_things():
            if not is_reader(thing):
                for deeds, room in (((), None), (None, 0)):
                    self.check_refused(NoRow, {"found": thing}, Kinds, thing, deeds, room=room)
                self.check_refused(NoRow, {"found": thing}, Kinds, room=1, deeds=(), row=thing)
            if not is_deeds(thing):
                for room in (None, 0, True):
                    self.check_refused(NoDeeds, {"found": thing}, Kinds, some_reader(), thing, room=room)
            if not is_room(thing):
                self.check_refused(NoNumber, {"found": thing}, Kinds, some_reader(), (), room=thing)
        for room in (0, 61, True, False):
            self.check_refused(NoNumber, {"found": room}, Kinds, some_reader(), HALF, room=room)
        for room in (1, 60, None):
            Kinds(some_reader(), (), room=room)
        reader = Told([1])
        kinds = Kinds(reader, ())
        self.check_refused(NoRow, {"found": kinds}, Kinds, kinds, ())
        for thing in odd_things():
            if not is_thing(thing):
                for call in (kinds.hand, kinds.waiting):
                    self.check_refused(NoThing, {"found": thing}, call, thing)
                    self.check_refused(NoThing, {"found": thing}, call, kind=thing)
        self.check_told([reader.asks, shown(kinds.kinds())], [0, "[]"])


class KindsAccount:
    """What hands of kinds must be told, where so many asks of the reader come to this."""

    def __init__(self, told, deeds, room):
        self.told, self.deeds, self.room = told, deeds, room
        self.at = 0
        self.kinds = []
        self.things = []
        self.closed = []
        self.has_ended = False

    def kind_of(self, thing):
        return turned_by(self.deeds, thing)

    def lying(self):
        self.things = [thing for thing in self.things if self.kind_of(thing) not in self.closed]
        return [self.kind_of(thing) for thing in self.things]

    def ask(self, kind):
        asks = 0
        while kind not in self.lying():
            if kind in self.closed or self.has_ended:
                return ("over",)
            if len(self.things) == self.room:
                return ("waits", self.room)
            if asks == 200:
                return ("waits", 200)
            if self.at == len(self.told):
                # More was asked of the reader than is known here.
                return None
            asks += 1
            came = self.told[self.at]
            self.at += 1
            if came[0] == "waits":
                return came
            if came[0] != "thing":
                self.has_ended = True
                return came
            self.things.append(came[1])
            if self.kind_of(came[1]) not in self.kinds:
                self.kinds.append(self.kind_of(came[1]))
        at = self.lying().index(kind)
        return ("thing", self.things.pop(at))


if __name__ == "__main__":
    unittest.main()
