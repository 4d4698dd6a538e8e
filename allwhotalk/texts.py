"""The texts of services and partners."""

from allwhotalk.checks import is_label, is_message
from allwhotalk.errors import TalkError, TextError
from allwhotalk.machines import Partner, Service

_SERVICE_HEADS = ("inputs", "outputs", "states")
_PARTNER_HEADS = ("states",)
_DIGITS = "0123456789"
_ENOUGH_DIGITS = 9


def service_text(service):
    """The text of the service."""
    inputs = _line(["inputs"] + service.inputs)
    outputs = _line(["outputs"] + service.outputs)
    return inputs + outputs + _machine_text(service)


def partner_text(partner):
    """The text of the partner."""
    return _machine_text(partner)


def read_service(text):
    """The service that has this text; raises TextError."""
    rows = _rows(text, _SERVICE_HEADS, True)
    states, transitions, final = _machine_of(rows[2:])
    try:
        return Service(rows[0][1:], rows[1][1:], states, transitions, final)
    except TalkError:
        raise TextError(len(rows), "no service") from None


def read_partner(text):
    """The partner that has this text; raises TextError."""
    rows = _rows(text, _PARTNER_HEADS, False)
    states, transitions, final = _machine_of(rows)
    try:
        return Partner(states, transitions, final)
    except TalkError:
        raise TextError(len(rows), "no partner") from None


def _line(items):
    return " ".join([str(item) for item in items]) + "\n"


def _machine_text(machine):
    """The lines that services and partners have in common."""
    lines = [_line(["states", machine.states])]
    lines.extend([_line(list(transition)) for transition in machine.transitions])
    lines.append(_line(["final"] + machine.final))
    return "".join(lines)


def _rows(text, heads, has_tau):
    """The words of each line of a text in which each line is right and none is lacking."""
    lines = text.split("\n")
    ended = len(lines) - 1
    if lines[-1] == "":
        # Nothing stands behind the last line feed, so there is no further line.
        del lines[-1]
    rows = [line.split(" ") for line in lines]
    closed = False
    for place, row in enumerate(rows):
        if closed or not _is_right(row, place, heads, has_tau):
            raise TextError(place, "unexpected")
        closed = row[0] == "final"
    if not closed or ended < len(rows):
        raise TextError(ended, "too short")
    return rows


def _is_right(row, place, heads, has_tau):
    """True if the words of this row can stand in this place of a text."""
    if place < len(heads):
        return row[0] == heads[place] and _are_items_of(heads[place], row[1:])
    if row[0] == "final":
        return _are_numerals(row[1:])
    if len(row) != 3 or not _are_numerals([row[0], row[2]]):
        return False
    return is_label(row[1]) or (has_tau and row[1] == "tau")


def _are_items_of(head, words):
    if head == "states":
        return len(words) == 1 and _are_numerals(words)
    return all([is_message(word) for word in words])


def _are_numerals(words):
    return all([_is_numeral(word) for word in words])


def _is_numeral(word):
    """True for decimal digits without leading zeros."""
    if word == "" or not all([sign in _DIGITS for sign in word]):
        return False
    return word == "0" or word[0] != "0"


def _machine_of(rows):
    """The states, transitions and final states that the right rows from "states" on tell."""
    states = _number(rows[0][1])
    transitions = [(_number(source), label, _number(target)) for source, label, target in rows[1:-1]]
    final = [_number(word) for word in rows[-1][1:]]
    return states, transitions, final


def _number(word):
    # Python does not convert digits without end; cut short, a number is still beyond every bound.
    return int(word[:_ENOUGH_DIGITS])
