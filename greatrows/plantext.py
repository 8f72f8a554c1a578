"""The texts that write plans, a row for each spot."""

from greatrows.deeds import deeds_text, read_deeds, read_tests, tests_text
from greatrows.errors import NoPlan, NoText, NoWord
from greatrows.plans import INPUTS, KINDS, MOST_NODES, fits, is_plan, nodes_by_spot
from greatrows.things import number_in


def plan_text(plan):
    """The text that writes the plan."""
    if not is_plan(plan):
        raise NoPlan(plan)
    return "\n".join([" " * len(spot) + _row_text(node) for spot, node in nodes_by_spot(plan)])


def read_plan(text):
    """The plan that the text writes."""
    if not isinstance(text, str):
        raise NoWord(text)
    heads = []
    # How deep the rows to come must stand, the next one last.
    depths = [0]
    rows = text.split("\n")
    for at, row in enumerate(rows):
        if not depths or at == MOST_NODES:
            raise NoText(at)
        depth = depths.pop()
        head = _read_row(row, depth)
        if head is None:
            raise NoText(at)
        heads.append(head)
        depths.extend([depth + 1] * INPUTS[head[0]])
    if depths:
        raise NoText(len(rows))
    return _joined(heads)


def _row_text(node):
    word = node[0]
    kinds = KINDS[word]
    told = [_word_text(kind, part) for kind, part in zip(kinds, node[1:])]
    return " ".join([word, *_turned_round(word, told)])


def _word_text(kind, thing):
    if kind == "deeds":
        return deeds_text(thing)
    if kind == "tests":
        return tests_text(thing)
    return "on" if thing is None else str(thing)


def _read_row(row, depth):
    """The tuple that a row writes, without its inputs, or None."""
    if row[:depth] != " " * depth:
        return None
    body = row[depth:]
    word = body.split(" ")[0]
    if word not in KINDS:
        return None
    kinds = _turned_round(word, KINDS[word])
    # Deeds and tests have blanks in them, and stand last: so the last word is all that is left.
    words = body.split(" ", len(kinds))
    if words[0] != word or len(words) != 1 + len(kinds):
        return None
    told = [_read_word(kind, text) for kind, text in zip(kinds, words[1:])]
    if [] in told:
        return None
    return (word, *_turned_round(word, [part[0] for part in told]))


def _read_word(kind, text):
    """A list of what the text writes, or of none."""
    if kind == "many" and text == "on":
        return [None]
    thing = _thing_written(kind, text)
    return [thing] if thing is not None and fits(kind, thing) else []


def _thing_written(kind, text):
    if kind == "name":
        return text
    if kind == "deeds":
        return read_deeds(text)
    if kind == "tests":
        return read_tests(text)
    return number_in(text)


def _turned_round(word, told):
    """In the order of the text, from that of the plan, and the other way: only of matched it is another one."""
    return told[::-1] if word == "matched" else told


def _joined(heads):
    """The plan of these tuples, to each of which its inputs come from behind it."""
    plans = []
    for head in heads[::-1]:
        parts = [plans.pop() for _ in range(INPUTS[head[0]])]
        plans.append((*head, *parts))
    return plans[0]
