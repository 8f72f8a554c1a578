"""What a row will do, told ahead, by a walk that opens and asks nothing of the shelf."""

from greatrows.errors import NoNumber
from greatrows.plans import part_at
from greatrows.shelves import check_grounds, check_names
from greatrows.things import is_whole
from greatrows.walks import STOPS, Walk, matters_in

MOST_ASKS_AHEAD = 2000


def told_ahead(plan, shelf, *, most=400):
    """How a row ends, or goes on, and how many things it tells, and holds."""
    walk = _walk(plan, shelf, most)
    how = walk.go()
    if how != STOPS:
        return (how, walk.many, walk.asked(), walk.room)
    if walk.circle is None:
        return ("open", walk.many, walk.room)
    first = walk.told_ahead_of[walk.circle[0]]
    if walk.many == first:
        return ("waits", first, walk.room)
    return ("endless", first, walk.many - first, walk.room)


def round_of(plan, shelf, *, most=400):
    """The numbers of two asks of leaves ahead of which the stands are equal, the later one the least, or None."""
    walk = _walk(plan, shelf, most)
    walk.go()
    return walk.circle


def shows_round(plan, shelf, thing):
    """Whether it is a tuple of the numbers of two such asks, the least or not."""
    check_grounds(plan, shelf)
    check_names(plan, shelf)
    if not isinstance(thing, tuple) or len(thing) != 2:
        return False
    one, other = thing
    if not is_whole(other, 1, MOST_ASKS_AHEAD) or not is_whole(one, 0, other - 1):
        return False
    walk = Walk(plan, shelf, other, False)
    walk.go()
    return len(walk.texts) > other and walk.texts[one] == walk.texts[other]


def what_matters(plan, spot):
    """What matters of the things of the part at a spot: a number, or None for all."""
    part_at(plan, spot)
    return matters_in(plan)[spot]


def _walk(plan, shelf, most):
    """A walk that stops where a stand comes again."""
    check_grounds(plan, shelf)
    if not is_whole(most, 1, MOST_ASKS_AHEAD):
        raise NoNumber(most)
    check_names(plan, shelf)
    return Walk(plan, shelf, most, True)
