"""Hands written from the words of the document alone, as a tree: what `greatrows.hands` is compared with."""

from greatrows.errors import Fault, NotShut, Over, TooMuch
from greatrows.joins import machine_of
from greatrows.plans import parts_of


class ModelHand:
    """A hand, with the row to its reader."""

    def __init__(self, plan, spot):
        self.plan = plan
        self.spot = spot
        self.machine = machine_of(plan)
        self.inputs = [ModelHand(part, (*spot, at)) for at, part in enumerate(parts_of(plan))]
        self.row = []
        self.does_nothing = False
        self.met = None
        self.reading = None
        self.asked = 0
        # How many things its reader took.
        self.taken = 0

    def all_within(self):
        return [self] + [each for part in self.inputs for each in part.all_within()]


class ModelHands:
    def __init__(self, plan, shelf, room):
        self.shelf = shelf
        self.room = room
        self.told = []
        self.ending = None
        self.not_shut = []
        self.opened = []
        self.root = ModelHand(plan, ())
        self.hands = {hand.spot: hand for hand in self.root.all_within()}
        for hand in self.hands.values():
            self.look_for_needless(hand)

    def turn(self, spot):
        hand = self.hands[spot]
        if hand.does_nothing:
            return False
        has_room = hand is self.root or len(hand.row) < self.room
        if hand.machine is None:
            if has_room:
                self.give(hand, self.ask(hand))
            return has_room
        if has_room and hand.machine.ready():
            self.give(hand, ("thing", hand.machine.gives()))
            return True
        if has_room and hand.met:
            self.give(hand, hand.met)
            return True
        if has_room and hand.machine.is_over():
            self.give(hand, ("over",))
            return True
        return self.take(hand)

    def take(self, hand):
        at = hand.machine.wants()
        if at is None or not hand.inputs[at].row:
            return False
        item = hand.inputs[at].row.pop(0)
        if item[0] == "thing":
            hand.inputs[at].taken += 1
            try:
                hand.machine.takes(at, item[1])
            except TooMuch as much:
                hand.met = ("much", much.many)
        elif item == ("over",):
            hand.machine.ends(at)
        elif not hand.machine.goes_on(at):
            hand.met = item
        if hand.met:
            self.done_with(hand.inputs)
        self.look_for_needless(hand)
        return True

    def ask(self, hand):
        if hand.plan[0] == "count":
            _, start, step, many = hand.plan
            if hand.asked == many:
                return ("over",)
            hand.asked += 1
            return ("thing", start + step * (hand.asked - 1))
        if hand.reading is None:
            hand.reading = self.shelf.open_up(hand.plan[-1])
            self.opened.append(hand)
        for left in range(hand.plan[1] if hand.plan[0] == "again" else 0, -1, -1):
            try:
                thing = self.shelf.ask(hand.reading)
                hand.asked += 1
                return ("thing", thing)
            except Over:
                self.shut([hand])
                return ("over",)
            except Fault as fault:
                if not left:
                    return ("fault", fault.name, fault.at)

    def give(self, hand, item):
        if item[0] != "thing":
            hand.does_nothing = True
        if hand is not self.root:
            hand.row.append(item)
        elif item[0] == "thing":
            hand.taken += 1
            self.told.append(item[1])
        else:
            self.ending = item
            self.done_with([hand])

    def look_for_needless(self, hand):
        if hand.machine is not None:
            self.done_with([hand.inputs[at] for at in hand.machine.needless()])

    def done_with(self, hands):
        within = [each for hand in hands for each in hand.all_within()]
        for each in within:
            each.does_nothing = True
            each.row = []
        self.shut(within)

    def shut(self, hands):
        for hand in [each for each in reversed(self.opened) if each in hands]:
            self.opened.remove(hand)
            try:
                self.shelf.shut(hand.reading)
            except NotShut as caught:
                self.not_shut.append(caught.found)

    def close(self):
        many = len(self.not_shut)
        self.done_with([self.root])
        return self.not_shut[many:]

    def waiting(self):
        return {spot: len(hand.row) for spot, hand in self.hands.items() if spot}

    def asked(self):
        return {spot: hand.asked for spot, hand in self.hands.items() if hand.machine is None}
