"""Plans made otherwise by rules, and the cheapest one that is reached so."""

from greatrows.deeds import tests_behind
from greatrows.errors import NoNumber, NoPlan, NotThere, NoWord, TooMuch
from greatrows.plans import KINDS, is_plan, is_spot_in, nodes_by_spot, part_at, put_at, replaced, spots_of
from greatrows.plantext import plan_text
from greatrows.things import is_whole

RULES = ("none", "fuse", "choose", "cut", "pass", "count", "right")
MOST_PLANS = 2000


def rules_at(plan, spot):
    """The rules that fit at a spot, in their order."""
    part = part_at(plan, spot)
    return [rule for rule in RULES if _made(rule, part) is not None]


def rewritten(plan, rule, spot):
    """The plan, made otherwise by a rule at a spot."""
    if not is_plan(plan):
        raise NoPlan(plan)
    if rule not in RULES:
        raise NoWord(rule)
    made = _made(rule, part_at(plan, spot))
    if made is None:
        raise NotThere(rule)
    return put_at(plan, spot, made)


def cost_of(plan):
    """How many tuples, simple deeds and simple tests the plan has."""
    if not is_plan(plan):
        raise NoPlan(plan)
    return sum([_cost_of_node(node) for _, node in nodes_by_spot(plan)])


def cheapest(plan, *, most=300):
    """The cheapest plan that is reached, its cost, and of the shortest ways to it the first."""
    best, way, _ = cheapest_paper(plan, most=most)
    return best, cost_of(best), way


def cheapest_paper(plan, *, most=300):
    """The cheapest plan that is reached, of the shortest ways to it the first, and all that is reached."""
    if not is_plan(plan):
        raise NoPlan(plan)
    if not is_whole(most, 1, MOST_PLANS):
        raise NoNumber(most)
    pairs = _reached(plan, most)
    # Of several that cost the least, `min` takes the first, to which the first of the shortest ways leads.
    best, way = min(pairs, key=lambda pair: cost_of(pair[0]))
    return best, way, [other for other, _ in pairs]


def shows_cheapest(plan, thing):
    """Whether it is a paper: the cheapest of some plans, a way to it, and these plans, out of which no step leads."""
    if not is_plan(plan):
        raise NoPlan(plan)
    if not isinstance(thing, tuple) or len(thing) != 3:
        return False
    best, way, plans = thing
    if not is_plan(best) or not isinstance(way, (list, tuple)) or not isinstance(plans, (list, tuple)):
        return False
    if not all([is_plan(other) for other in plans]):
        return False
    texts = {plan_text(other): True for other in plans}
    if len(texts) < len(plans) or plan_text(plan) not in texts or not _leads(plan, way, best):
        return False
    if not all([plan_text(made) in texts for other in plans for _, made in _steps_from(other)]):
        return False
    return cost_of(best) == min([cost_of(other) for other in plans])


def _made(rule, node):
    """What a rule makes of the plan at a spot, or None where it doesn't fit."""
    make = MAKERS[rule]
    made = make(node)
    return made if is_plan(made) else None


def _without(node):
    return node[-1] if node[:2] in (("turned", ()), ("skip", 0)) else None


def _fused(node):
    if node[0] not in ("turned", "chosen", "while", "first", "skip") or node[2][0] != node[0]:
        return None
    word, late, inner = node
    _, early, part = inner
    if word == "first":
        return (word, min(late, early), part)
    if word == "skip":
        return (word, late + early, part)
    return (word, (*early, *late), part)


def _chosen_ahead(node):
    if node[0] != "chosen" or node[2][0] != "turned" or not node[2][1]:
        return None
    _, tests, inner = node
    _, deeds, part = inner
    try:
        return ("turned", deeds, ("chosen", tests_behind(tests, deeds), part))
    except TooMuch:
        return None


def _cut(node):
    return _changed_round(node) if node[0] == "first" and node[2][0] in ("turned", "sums") else None


def _passed(node):
    return _changed_round(node) if node[0] == "skip" and node[2][0] == "turned" else None


def _changed_round(node):
    """The node and its input, the one in the place of the other."""
    inner = node[-1]
    return (*inner[:-1], (*node[:-1], inner[-1]))


def _counted(node):
    if node[0] not in ("turned", "first", "skip") or node[2][0] != "count":
        return None
    word, by, inner = node
    _, start, step, many = inner
    if word == "first":
        return ("count", start, step, by if many is None else min(by, many))
    if word == "skip":
        return ("count", start + step * by, step, None if many is None else max(many - by, 0))
    if len(by) != 1 or by[0][0] == "rest":
        return None
    deed, number = by[0]
    if deed == "add":
        return ("count", start + number, step, many)
    return ("count", start * number, step * number, many)


def _righted(node):
    if node[0] not in ("behind", "else") or node[1][0] != node[0]:
        return None
    word, inner, last = node
    _, first, second = inner
    return (word, first, (word, second, last))


def _cost_of_node(node):
    kinds = KINDS[node[0]]
    if "deeds" in kinds:
        return 1 + len(node[1])
    if "tests" in kinds:
        return 1 + sum([1 + len(test[0]) for test in node[1]])
    return 1


def _steps_from(plan):
    """Tuples (step, the plan that it makes) of all steps out of a plan, in their order."""
    steps = []
    for spot, node in nodes_by_spot(plan):
        for rule in RULES:
            made = _made(rule, node)
            if made is not None:
                steps.append(((rule, spot), replaced(plan, spot, made)))
    return steps


def _reached(plan, most):
    """Tuples (plan, way) of all plans that are reached; those with shorter ways, and earlier ones, stand ahead."""
    pairs = [(plan, [])]
    texts = {plan_text(plan): True}
    at = 0
    while at < len(pairs):
        ahead, way = pairs[at]
        for step, made in _steps_from(ahead):
            text = plan_text(made)
            if text not in texts:
                if len(pairs) == most:
                    raise TooMuch(most + 1)
                texts[text] = True
                pairs.append((made, [*way, step]))
        at += 1
    return pairs


def _leads(plan, way, best):
    """Whether it is a list of steps that lead from the one plan to the other one."""
    for step in way:
        if not isinstance(step, tuple) or len(step) != 2:
            return False
        rule, spot = step
        if not is_spot_in(spots_of(plan), spot) or rule not in rules_at(plan, spot):
            return False
        plan = rewritten(plan, rule, spot)
    return plan == best


MAKERS = {
    "none": _without, "fuse": _fused, "choose": _chosen_ahead, "cut": _cut, "pass": _passed, "count": _counted,
    "right": _righted,
}
