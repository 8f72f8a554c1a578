"""Plans: what is one, its parts and their spots, and plans made of others."""

from greatrows.deeds import is_deeds, is_tests
from greatrows.errors import NoList, NoPlan, NoSpot, TooMuch
from greatrows.things import is_name, is_whole

MOST_NODES = 12
# What stands in a tuple behind its word, ahead of its input plans, by the kinds that `fits` knows.
KINDS = {
    "from": ("name",), "again": ("tries", "name"), "count": ("whole", "whole", "many"),
    "turned": ("deeds",), "chosen": ("tests",), "while": ("tests",), "until": ("tests",),
    "first": ("sixty",), "skip": ("sixty",), "windows": ("eight",), "groups": ("deeds",), "sums": (), "flat": (),
    "behind": (), "beside": (), "merged": (), "matched": ("deeds", "eight"), "else": (),
}
INPUTS = {
    "from": 0, "again": 0, "count": 0,
    "turned": 1, "chosen": 1, "while": 1, "until": 1, "first": 1, "skip": 1, "windows": 1, "groups": 1, "sums": 1,
    "flat": 1,
    "behind": 2, "beside": 2, "merged": 2, "matched": 2, "else": 2,
}
BOUNDS = {"whole": (None, None), "tries": (1, 5), "eight": (1, 8), "sixty": (0, 60)}


def is_plan(thing):
    """Whether it is a plan of at most twelve tuples."""
    many = 0
    unseen = [thing]
    while unseen:
        node = unseen.pop()
        many += 1
        if many > MOST_NODES or not _is_node(node):
            return False
        unseen.extend(inputs_of(node))
    return True


def is_leaf(plan):
    """Whether the plan has no input."""
    if not is_plan(plan):
        raise NoPlan(plan)
    return INPUTS[plan[0]] == 0


def parts_of(plan):
    """The input plans."""
    if not is_plan(plan):
        raise NoPlan(plan)
    return inputs_of(plan)


def nodes_in(plan):
    """How many tuples the plan has, itself counted."""
    return len(spots_of(plan))


def spots_of(plan):
    """All its spots, each ahead of those within it, those of input 0 ahead of those of input 1."""
    if not is_plan(plan):
        raise NoPlan(plan)
    return [spot for spot, _ in nodes_by_spot(plan)]


def names_in(plan):
    """The names of its sources, each once, in the order of their spots."""
    if not is_plan(plan):
        raise NoPlan(plan)
    names = []
    for _, node in nodes_by_spot(plan):
        if _has_name(node) and node[-1] not in names:
            names.append(node[-1])
    return names


def part_at(plan, spot):
    """The plan at a spot."""
    if not is_plan(plan):
        raise NoPlan(plan)
    if not is_spot_in(spots_of(plan), spot):
        raise NoSpot(spot)
    part = plan
    for at in spot:
        part = inputs_of(part)[at]
    return part


def put_at(plan, spot, other):
    """The plan, with another one at a spot."""
    taken = part_at(plan, spot)
    if not is_plan(other):
        raise NoPlan(other)
    many = nodes_in(plan) - nodes_in(taken) + nodes_in(other)
    if many > MOST_NODES:
        raise TooMuch(many)
    return replaced(plan, spot, other)


def renamed(plan, names):
    """The plan, with its sources called as a dict from names to names tells."""
    if not is_plan(plan):
        raise NoPlan(plan)
    if not _is_naming(names):
        raise NoList(names)
    return _called(plan, names)


def fits(kind, thing):
    """Whether a thing may stand in a plan where this kind is wanted."""
    if kind in BOUNDS:
        low, high = BOUNDS[kind]
        return is_whole(thing, low, high)
    if kind == "many":
        return thing is None or is_whole(thing, 0, 60)
    if kind == "name":
        return is_name(thing)
    if kind == "deeds":
        return is_deeds(thing)
    return is_tests(thing)


def inputs_of(node):
    """A new list of what stands at the places of the inputs."""
    return list(node[len(node) - INPUTS[node[0]]:])


def tries_of(leaf):
    """How often a leaf asks again for a thing that faults."""
    return leaf[1] if leaf[0] == "again" else 0


def is_spot_in(spots, thing):
    """Whether it is one of these spots."""
    # A truth is equal to a number, so being in the list isn't enough.
    return isinstance(thing, tuple) and all([is_whole(part, 0, 1) for part in thing]) and thing in spots


def nodes_by_spot(plan):
    """Tuples (spot, the part there) of all that is in the plan, in the order of the spots."""
    found = [((), plan)]
    for at, part in enumerate(inputs_of(plan)):
        found.extend([((at, *spot), node) for spot, node in nodes_by_spot(part)])
    return found


def replaced(plan, spot, other):
    """The plan, with another one at a spot, which is known to be one of it."""
    if not spot:
        return other
    parts = inputs_of(plan)
    parts[spot[0]] = replaced(parts[spot[0]], spot[1:], other)
    return _with_inputs(plan, parts)


def _is_node(thing):
    """Whether it is a plan as far as its own tuple tells, whatever its inputs are."""
    if not isinstance(thing, tuple) or not thing:
        return False
    word = thing[0]
    if not isinstance(word, str) or word not in KINDS:
        return False
    kinds = KINDS[word]
    if len(thing) != 1 + len(kinds) + INPUTS[word]:
        return False
    return all([fits(kind, part) for kind, part in zip(kinds, thing[1:])])


def _is_naming(thing):
    if not isinstance(thing, dict):
        return False
    return all([is_name(name) and is_name(other) for name, other in thing.items()])


def _has_name(node):
    return "name" in KINDS[node[0]]


def _with_inputs(node, parts):
    return (*node[:len(node) - len(parts)], *parts)


def _called(plan, names):
    if _has_name(plan):
        return (*plan[:-1], names.get(plan[-1], plan[-1]))
    return _with_inputs(plan, [_called(part, names) for part in inputs_of(plan)])
