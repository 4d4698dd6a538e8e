"""What numbers, messages and labels are."""

_LETTERS = "abcdefghijklmnopqrstuvwxyz"
_MOST_MESSAGES = 3


def is_number(value):
    """True if the value is an integer from 0 on [2]."""
    # Python counts bools among the integers, the document does not.
    return isinstance(value, int) and not isinstance(value, bool) and value >= 0


def is_message(value):
    """True if the value is a message [3]."""
    if not isinstance(value, str) or not 1 <= len(value) <= 8:
        return False
    return all([letter in _LETTERS for letter in value])


def is_label(value):
    """True if the value is "!" or "?" and a message [3]."""
    return isinstance(value, str) and value[:1] in ("!", "?") and is_message(value[1:])


def ascends(items):
    """True if each item is less than the next one [2]."""
    return all([low < high for low, high in zip(items, items[1:])])


def are_sides(inputs, outputs):
    """True if these are inputs and outputs as a service has them [4]."""
    if not _are_messages(inputs) or not _are_messages(outputs):
        return False
    return not any([message in outputs for message in inputs])


def labels_between(sent, received):
    """The labels of a machine that sends and receives these messages, ascending."""
    return sorted(["!" + message for message in sent] + ["?" + message for message in received])


def _are_messages(items):
    if not isinstance(items, list) or len(items) > _MOST_MESSAGES:
        return False
    return all([is_message(item) for item in items]) and ascends(items)
