"""What comes of an ask, as a tuple: ("thing", thing), ("over",), a fault, or ("waits", many)."""

from greatrows.errors import Fault, Over, Thrown, TooMuch, Waits

OVER = ("over",)


def came_of(call):
    """What comes of a call, as a tuple."""
    try:
        return ("thing", call())
    except Over:
        return OVER
    except Fault as fault:
        return ("fault", fault.name, fault.at)
    except TooMuch as much:
        return ("much", much.many)
    except Thrown as thrown:
        return ("thrown", thrown.word)
    except Waits as waits:
        return ("waits", waits.many)


def refuse(came):
    """Refuses as such a tuple tells."""
    word, *fields = came
    if word == "fault":
        raise Fault(fields[0], fields[1])
    if word == "much":
        raise TooMuch(fields[0])
    if word == "thrown":
        raise Thrown(fields[0])
    if word == "waits":
        raise Waits(fields[0])
    raise Over()
