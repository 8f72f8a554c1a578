"""The plain reckoner: whole lists of what plans tell, and how many things of their leaves that needs."""

from greatrows.deeds import all_hold, thing_turned
from greatrows.errors import NoNumber
from greatrows.plans import INPUTS, inputs_of, tries_of
from greatrows.shelves import check_grounds, check_names
from greatrows.things import is_whole, value_of

MOST_OF_LEAF = 1600
MOST_TOLD = 400
MOST_OF_GROUP = 8
# Most plans are told by few things of each leaf, so few are tried first.
FEW_OF_LEAF = 25
OVER = "over"
FAULT = "fault"
OPEN = "open"


def plain_told(plan, shelf, many):
    """The first so many things that the plan tells, and how it goes on behind them."""
    check_asked(plan, shelf, many)
    check_names(plan, shelf)
    things, word, _ = all_told(plan, shelf, many)
    return things, word


def needs_told(plan, shelf, many):
    """How many things each leaf is asked for until so many things are told, by the leaves' spots."""
    check_asked(plan, shelf, many)
    check_names(plan, shelf)
    _, _, needs = all_told(plan, shelf, many)
    return needs


def all_told(plan, shelf, many):
    """The first so many things, how it goes on behind them, and how many things each leaf is asked for."""
    whole = _whole_of(plan, shelf, many)
    asks = min(many, len(whole.things) + 1)
    needs = {spot: things for spot, things in _needs_of(whole, (), asks)}
    if len(whole.things) < many:
        return whole.things, whole.word, needs
    return whole.things[:many], "more", needs


def check_asked(plan, shelf, many):
    """Refuses what no plan, shelf or number of things may be."""
    check_grounds(plan, shelf)
    if not is_whole(many, 0, MOST_TOLD):
        raise NoNumber(many)


class Part:
    """A part of a plan: all things that it tells, and the word of its ending behind them.

    `asks` has, for each number of its asks, how often it asks each of its inputs for them. There is one more
    of them than there are things: the last one meets the ending.
    """

    def __init__(self, pairs, word, last, parts):
        self.things = [thing for thing, _ in pairs]
        self.word = word
        self.parts = parts
        self.asks = [(0,) * len(parts), *[asks for _, asks in pairs], last]


def _whole_of(plan, shelf, many):
    """The whole plan, by as many things of each leaf as tell so many things, or its ending."""
    most = FEW_OF_LEAF
    whole = _part_of(plan, shelf, most)
    while whole.word == OPEN and len(whole.things) < many and most < MOST_OF_LEAF:
        most = most * 8
        whole = _part_of(plan, shelf, most)
    return whole


def _needs_of(part, spot, asks):
    """Tuples (spot, things) of all leaves beneath a part that is asked so often."""
    if not part.parts:
        return [(spot, min(asks, len(part.things)))]
    needs = []
    for at, other in enumerate(part.parts):
        needs.extend(_needs_of(other, (*spot, at), part.asks[asks][at]))
    return needs


def _part_of(plan, shelf, most):
    """A part of a plan, by at most so many things of each leaf."""
    parts = [_part_of(other, shelf, most) for other in inputs_of(plan)]
    if INPUTS[plan[0]] == 0:
        things, word = _count_told(plan, most) if plan[0] == "count" else _source_told(plan, shelf, most)
        return Part([(thing, ()) for thing in things], word, (), parts)
    reckon = RECKONERS[plan[0]]
    pairs, word, last = reckon(plan, *parts)
    return Part(pairs, word, last, parts)


def _count_told(plan, most):
    _, start, step, many = plan
    if many is not None and many < most:
        return [start + step * at for at in range(many)], OVER
    return [start + step * at for at in range(most)], OPEN


def _source_told(plan, shelf, most):
    source = shelf.source(plan[-1])
    many = source.how_many()
    faults = dict(source.told()[3])
    tries = tries_of(plan)
    things = []
    for at in range(most):
        if at == many:
            return things, OVER
        if at in faults and (faults[at] is None or faults[at] > tries):
            return things, FAULT
        things.append(source.thing_behind(at, things[-1] if things else None))
    return things, OPEN


def _each_told(things):
    """Tuples (thing, asks) of things that each come of one further ask."""
    return [(thing, (at + 1,)) for at, thing in enumerate(things)]


def _all_told(things, part):
    """What a reckoner tells of a plan that needs its input up to the ending."""
    return things, part.word, (len(part.things) + 1,)


def _turned(plan, part):
    return _all_told(_each_told([thing_turned(plan[1], thing) for thing in part.things]), part)


def _chosen(plan, part):
    return _all_told([(thing, asks) for thing, asks in _each_told(part.things) if _holds(plan, thing)], part)


def _while(plan, part):
    pairs = []
    for thing, asks in _each_told(part.things):
        if not _holds(plan, thing):
            return pairs, OVER, asks
        pairs.append((thing, asks))
    return _all_told(pairs, part)


def _until(plan, part):
    pairs = []
    for thing, asks in _each_told(part.things):
        pairs.append((thing, asks))
        if _holds(plan, thing):
            return pairs, OVER, asks
    return _all_told(pairs, part)


def _first(plan, part):
    many = plan[1]
    if len(part.things) < many:
        return _all_told(_each_told(part.things), part)
    return _each_told(part.things[:many]), OVER, (many,)


def _skip(plan, part):
    return _all_told(_each_told(part.things)[plan[1]:], part)


def _windows(plan, part):
    many = plan[1]
    ends = [at + many for at in range(len(part.things) - many + 1)]
    return _all_told([(tuple(part.things[end - many:end]), (end,)) for end in ends], part)


def _groups(plan, part):
    pairs = []
    kept = []
    for thing, asks in _each_told(part.things):
        if kept and thing_turned(plan[1], kept[0]) != thing_turned(plan[1], thing):
            pairs.append((tuple(kept), asks))
            kept = []
        kept.append(thing)
        if len(kept) == MOST_OF_GROUP:
            pairs.append((tuple(kept), asks))
            kept = []
    if kept and part.word == OVER:
        pairs.append((tuple(kept), (len(part.things) + 1,)))
    return _all_told(pairs, part)


def _sums(_, part):
    total = 0
    sums = []
    for thing in part.things:
        total = total + value_of(thing)
        sums.append(total)
    return _all_told(_each_told(sums), part)


def _flat(_, part):
    pairs = []
    for thing, asks in _each_told(part.things):
        pairs.extend([(one, asks) for one in (thing if isinstance(thing, tuple) else (thing,))])
    return _all_told(pairs, part)


def _behind(_, one, other):
    return _followed(one, other, OVER)


def _else(_, one, other):
    return _followed(one, other, FAULT)


def _followed(one, other, word):
    """All of the one, and where it ends with this word, all of the other."""
    asks = len(one.things) + 1
    pairs = [(thing, (at + 1, 0)) for at, thing in enumerate(one.things)]
    if one.word != word:
        return pairs, one.word, (asks, 0)
    pairs.extend([(thing, (asks, at + 1)) for at, thing in enumerate(other.things)])
    return pairs, other.word, (asks, len(other.things) + 1)


def _beside(_, one, other):
    pairs = [(pair, (at + 1, at + 1)) for at, pair in enumerate(zip(one.things, other.things))]
    asks = len(pairs) + 1
    # Input 0 is asked first, and its ending comes ahead of that of input 1.
    if len(one.things) == len(pairs):
        return pairs, one.word, (asks, asks - 1)
    return pairs, other.word, (asks, asks)


def _merged(_, one, other):
    ones = [value_of(thing) for thing in one.things]
    others = [value_of(thing) for thing in other.things]
    pairs = []
    first, second = 0, 0
    while True:
        asks = (first + 1, second + 1)
        if first == len(ones) and one.word != OVER:
            # Input 1 is asked ahead of this ending just where something was told.
            return pairs, one.word, asks if pairs else (1, 0)
        if second == len(others) and other.word != OVER:
            return pairs, other.word, asks
        if first == len(ones) and second == len(others):
            return pairs, OVER, asks
        if second == len(others) or (first < len(ones) and ones[first] <= others[second]):
            pairs.append((one.things[first], asks))
            first += 1
        else:
            pairs.append((other.things[second], asks))
            second += 1


def _matched(plan, one, other):
    _, deeds, room, _, _ = plan
    kept = other.things
    if len(kept) > room:
        return [], FAULT, (0, room + 1)
    asks = len(kept) + 1
    if other.word != OVER or not kept:
        return [], other.word, (0, asks)
    pairs = []
    for at, thing in enumerate(one.things):
        key = thing_turned(deeds, thing)
        pairs.extend([((thing, each), (at + 1, asks)) for each in kept if thing_turned(deeds, each) == key])
    return pairs, one.word, (len(one.things) + 1, asks)


def _holds(plan, thing):
    return all_hold(plan[1], value_of(thing))


RECKONERS = {
    "turned": _turned, "chosen": _chosen, "while": _while, "until": _until, "first": _first, "skip": _skip,
    "windows": _windows, "groups": _groups, "sums": _sums, "flat": _flat,
    "behind": _behind, "beside": _beside, "merged": _merged, "matched": _matched, "else": _else,
}
