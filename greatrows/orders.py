"""All orders of turns of a plan that is run by hands, and of the shortest ones the first."""

from greatrows.errors import NoNumber
from greatrows.hands import MOST_IN_ALL, Hands
from greatrows.plans import is_spot_in, spots_of
from greatrows.shelves import check_grounds, fresh_shelf
from greatrows.things import is_whole


def ends_by_turns(plan, shelf, many, *, room=1):
    """What all orders of turns come to, and of the shortest orders the first."""
    hands = _new_hands(plan, shelf, many, room)
    ends = []
    orders = []
    seen = {hands.stands(): True}
    # All that are reached by as many turns, those by the lesser order first.
    level = [(hands, [])]
    while level:
        further = []
        for hands, order in level:
            if not hands.has_told(many):
                further.extend(_further(hands, order, spots_of(plan), seen))
                continue
            orders.append(order)
            end = (hands.told(), hands.ending())
            if end not in ends:
                ends.append(end)
        level = further
    return ends, orders[0] if orders else []


def shows_turns(plan, shelf, many, thing, *, room=1):
    """Whether it is a list of spots whose turns all do something, and come just to so many things, or the ending."""
    hands = _new_hands(plan, shelf, many, room)
    if not isinstance(thing, (list, tuple)):
        return False
    spots = spots_of(plan)
    for spot in thing:
        if hands.has_told(many) or not is_spot_in(spots, spot) or not hands.turn(spot):
            return False
    return hands.has_told(many)


def _new_hands(plan, shelf, many, room):
    check_grounds(plan, shelf)
    if not is_whole(many, 0, MOST_IN_ALL):
        raise NoNumber(many)
    return Hands(plan, fresh_shelf(shelf), room=room)


def _further(hands, order, spots, seen):
    """Tuples (hands, order) of all that one turn more comes to, and that weren't seen yet."""
    found = []
    other = hands.copied()
    for spot in spots:
        if other.turn(spot):
            text = other.stands()
            if text not in seen:
                seen[text] = True
                found.append((other, [*order, spot]))
            other = hands.copied()
    return found
