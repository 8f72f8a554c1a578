"""What the tests of machines share: machines that are fed, and all ways that they may go."""

from greatrows.errors import TooMuch

ALPHABET = (0, 1, (1,))


def shape(machine):
    """All that a machine tells of itself."""
    wants = machine.wants()
    sure = None if wants is None else [machine.sure(many) for many in (1, 2, 5)]
    return (wants, machine.ready(), machine.is_over(), tuple(machine.needless()), machine.held(), str(sure),
            machine.rest())


def nexts(machine, alphabet=ALPHABET):
    """Tuples (what is done, what comes of it, a twin behind it), for all that may be done with the machine."""
    found = []
    if machine.ready():
        twin = machine.twin()
        found.append(("gives", twin.gives(), twin))
    at = machine.wants()
    if at is None:
        return found
    for thing in alphabet:
        twin = machine.twin()
        try:
            found.append((("takes", thing), twin.takes(at, thing), twin))
        except TooMuch as much:
            found.append((("takes", thing), ("much", much.many), twin))
    twin = machine.twin()
    found.append(("ends", twin.ends(at), twin))
    twin = machine.twin()
    found.append(("faults", twin.goes_on(at), twin))
    return found


def future(machine, steps):
    """All that may be seen of a machine in so many steps."""
    if steps == 0:
        return shape(machine)
    return (shape(machine), tuple([(deed, came, future(twin, steps - 1)) for deed, came, twin in nexts(machine)]))


def states(machine, steps, alphabet=ALPHABET):
    """The machine, and twins of it wherever it may come in so many steps."""
    found = [machine]
    last = [machine]
    for _ in range(steps):
        last = [twin for one in last for _, _, twin in nexts(one, alphabet)]
        found.extend(last)
    return found


def fed(machine, things, ended=True):
    """The things that a machine of one input gives, which is fed as a row feeds it, and how many it took."""
    told = []
    taken = 0
    while True:
        while machine.ready():
            told.append(machine.gives())
        if machine.wants() is None or (taken == len(things) and not ended):
            return told, taken
        if taken < len(things):
            machine.takes(0, things[taken])
            taken += 1
        else:
            machine.ends(0)


def joined(machine, one, other):
    """The things that a machine of two inputs gives, which is fed as a row feeds it, and how many it took of each."""
    told = []
    taken = [0, 0]
    while True:
        while machine.ready():
            told.append(machine.gives())
        at = machine.wants()
        if at is None:
            return told, taken
        things = (one, other)[at]
        if taken[at] < len(things):
            taken[at] += 1
            machine.takes(at, things[taken[at] - 1])
        else:
            machine.ends(at)


def check_alike(case, found):
    """The stands of these states are equal just where all that may come of them in four steps is."""
    by_stand = {}
    by_future = {}
    for state in found:
        stand = state.stands()
        seen = repr(future(state, 4))
        case.assertIsInstance(stand, tuple)
        case.assertEqual(by_stand.setdefault(repr(stand), seen), seen, stand)
        case.assertEqual(by_future.setdefault(seen, repr(stand)), repr(stand), seen)
