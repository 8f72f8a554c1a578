"""Plans for the tests, of every word."""

import itertools

THIRTY = 10 ** 30 - 1
TESTS = (((("add", 2), ("rest", 5)), "below", 3, True), ((), "is", 0, False))
ONE_TEST = (((), "parts", 3, True),)

# Tuples of what stands ahead of the inputs.
LEAVES = (
    ("from", "a"), ("from", "none"), ("from", "abcdefgh"), ("again", 1, "b"), ("again", 5, "from"),
    ("count", 0, 1, None), ("count", -3, 0, 0), ("count", THIRTY, -THIRTY, 60), ("count", 7, 2, 1),
)
OF_ONE = (
    ("turned", ()), ("turned", (("add", 1),)), ("turned", (("times", -2), ("rest", 5)) * 4),
    ("chosen", ONE_TEST), ("chosen", TESTS * 4), ("while", TESTS), ("until", ONE_TEST),
    ("first", 0), ("first", 60), ("skip", 0), ("skip", 60), ("windows", 1), ("windows", 8),
    ("groups", ()), ("groups", (("rest", 2),)), ("sums",), ("flat",),
)
OF_TWO = (
    ("behind",), ("beside",), ("merged",), ("matched", (), 1), ("matched", (("rest", 3), ("add", 1)), 8), ("else",),
)


def nest(many, leaf=("from", "a")):
    """A plan of so many tuples, each within the other."""
    plan = leaf
    for at in range(many - 1):
        plan = (*OF_ONE[at % len(OF_ONE)], plan)
    return plan


def tree(many):
    """A plan of so many tuples, an odd number, that has inputs on both sides."""
    names = [("from", name) for name in ("a", "b", "a", "c", "a", "d", "b")]
    plans = names[:(many + 1) // 2]
    at = 0
    while len(plans) > 1:
        plans.append((*OF_TWO[at % len(OF_TWO)], plans.pop(0), plans.pop(0)))
        at += 1
    return plans[0]


def some_plans():
    plans = list(LEAVES)
    plans.extend((*head, leaf) for head in OF_ONE for leaf in LEAVES)
    plans.extend((*head, one, other) for head in OF_TWO for one, other in itertools.product(LEAVES, LEAVES[2:7]))
    plans.extend((*first, (*second, leaf)) for first, second in itertools.product(OF_ONE, OF_ONE) for leaf in LEAVES[:2])
    plans.extend((*head, ("sums", one), (*other, one, ("from", "c"))) for head in OF_TWO for other in OF_TWO
                 for one in LEAVES[:4])
    plans.extend(nest(many) for many in range(1, 13))
    plans.extend(tree(many) for many in (1, 3, 5, 7, 9, 11))
    plans.append(("flat", tree(11)))
    plans.append(("beside", nest(6), nest(5)))
    return plans


PLANS = some_plans()
EDGES = (
    ("from", "a"), ("count", 1, 1, None), nest(11), nest(12), tree(11), ("flat", tree(11)), ("beside", nest(6), nest(5)),
    ("matched", (("rest", 2),), 3, ("again", 2, "b"), ("merged", ("from", "c"), ("skip", 2, ("from", "a")))),
)
