"""The texts that a desk answers with."""


def thing_text(thing):
    """A number plainly written, or a tuple in brackets."""
    if isinstance(thing, tuple):
        return "(" + " ".join([thing_text(part) for part in thing]) + ")"
    return str(thing)


def things_text(things):
    """Things with commas between, or none."""
    return ", ".join([thing_text(thing) for thing in things]) or "none"


def told_text(things, many, came):
    """Things, and, where they are fewer than so many, what came."""
    if len(things) == many:
        return things_text(things)
    return things_text(things) + " | " + parts_text(came)


def parts_text(parts):
    """Parts with blanks between."""
    return " ".join([str(part) for part in parts])


def rows_text(rows):
    """Rows with strokes between."""
    return " / ".join(rows)


def asked_text(asked):
    """How many things were asked of leaves: of tuples (spot, how many)."""
    return parts_text([f"{_spot_text(spot)}:{many}" for spot, many in asked])


def numbers_text(numbers):
    """Numbers with commas between, or none."""
    return ",".join([str(number) for number in numbers]) or "none"


def _spot_text(spot):
    return ".".join([str(at) for at in spot]) or "-"
