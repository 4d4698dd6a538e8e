"""A service and its links as one system: its states and what can happen there."""

from allwhotalk.errors import TalkError
from allwhotalk.machines import labels_of

_MOST_SYSTEM_STATES = 120


class System:
    """What can happen at each reachable system state, worked out once for those who ask often.

    results has, for each of these states, the results of each label that is enabled there; moves and faults
    have the pairs (action, system state); finished has True or False.
    """

    def __init__(self, service, links):
        states = _reachable(service, links)
        self.first = _first_state(links)
        self.results = {state: _enabled(service, links, state) for state in states}
        self.moves = {state: _moves_at(service, links, state) for state in states}
        self.faults = {state: _faults_at(links, state) for state in states}
        self.finished = {state: _is_finished(service, state) for state in states}


def system_states(service, links):
    """The reachable system states [10], ascending."""
    return _reachable(service, links)


def results(service, links, state, label):
    """The results of a label of the interface at a reachable system state [8], ascending."""
    _refuse_too_many(service, links)
    return _results_at(service, links, state, label)


def service_moves(service, links, state):
    """The pairs (action, system state) of the moves of the service [9], ascending."""
    _refuse_too_many(service, links)
    return _moves_at(service, links, state)


def faults(service, links, state):
    """The pairs (action, system state) of the faults [9], ascending."""
    _refuse_too_many(service, links)
    return _faults_at(links, state)


def is_waiting(service, links, state):
    """True if the service has no move at this system state [10]."""
    _refuse_too_many(service, links)
    return len(_moves_at(service, links, state)) == 0


def is_finished(service, links, state):
    """True if the state of the service is final and both links are empty [10]."""
    _refuse_too_many(service, links)
    return _is_finished(service, state)


def _refuse_too_many(service, links):
    _reachable(service, links)


def _reachable(service, links):
    """The reachable system states, ascending; raises TalkError if they are too many."""
    first = _first_state(links)
    found = {first: True}
    open_ones = [first]
    while len(open_ones) > 0:
        state = open_ones.pop()
        for target in _targets(service, links, state):
            if target not in found:
                found[target] = True
                open_ones.append(target)
        if len(found) > _MOST_SYSTEM_STATES:
            raise TalkError("too many system states")
    return sorted(found)


def _first_state(links):
    losses = (links.to_service.losses, links.to_partner.losses)
    doubles = (links.to_service.doubles, links.to_partner.doubles)
    return (0, (), (), losses, doubles)


def _targets(service, links, state):
    """The system states to which labels, moves of the service and faults lead from this one."""
    found = []
    for label in labels_of(service):
        found.extend(_results_at(service, links, state, label))
    for _, target in _moves_at(service, links, state) + _faults_at(links, state):
        found.append(target)
    return found


def _enabled(service, links, state):
    """The enabled labels, ascending, each with its results."""
    found = {}
    for label in labels_of(service):
        behind = _results_at(service, links, state, label)
        if len(behind) > 0:
            found[label] = behind
    return found


def _results_at(service, links, state, label):
    if label[0] == "!":
        return sorted(_behind_sending(service, links.to_service, state, label[1:]))
    return sorted(_behind_receiving(service, links.to_partner, state, label[1:]))


def _behind_sending(service, link, state, message):
    """The system states behind the label with which the partner sends the message."""
    s, to_service, to_partner, losses, doubles = state
    if link.capacity == 0:
        targets = _targets_of(service, s, "?" + message)
        return [(target, to_service, to_partner, losses, doubles) for target in targets]
    if len(to_service) < link.capacity:
        return [(s, _put_in(link, to_service, message), to_partner, losses, doubles)]
    return []


def _behind_receiving(service, link, state, message):
    """The system states behind the label with which the partner receives the message."""
    s, to_service, to_partner, losses, doubles = state
    if link.capacity == 0:
        targets = _targets_of(service, s, "!" + message)
        return [(target, to_service, to_partner, losses, doubles) for target in targets]
    if message in _at_hand(link, to_partner):
        return [(s, to_service, _taken_from(to_partner, message), losses, doubles)]
    return []


def _targets_of(service, s, label):
    """The states behind the transitions of the service with this label from its state s."""
    return [target for source, own, target in service.transitions if source == s and own == label]


def _moves_at(service, links, state):
    found = []
    for source, label, target in service.transitions:
        if source == state[0]:
            found.extend(_moves_by(links, state, label, target))
    return sorted(found)


def _moves_by(links, state, label, target):
    """The move with which the service makes this transition: a list of one pair, or of none."""
    _, to_service, to_partner, losses, doubles = state
    message = label[1:]
    if label == "tau":
        return [("tau", (target, to_service, to_partner, losses, doubles))]
    # Over a direct link the service makes no move: such a link never holds a message and is always full.
    if label[0] == "?" and message in _at_hand(links.to_service, to_service):
        rest = _taken_from(to_service, message)
        return [("service " + label, (target, rest, to_partner, losses, doubles))]
    if label[0] == "!" and len(to_partner) < links.to_partner.capacity:
        more = _put_in(links.to_partner, to_partner, message)
        return [("service " + label, (target, to_service, more, losses, doubles))]
    return []


def _faults_at(links, state):
    s, to_service, to_partner, losses, doubles = state
    found = []
    for action, contents, lost, doubled in _faults_of(links.to_service, to_service, losses[0], doubles[0]):
        target = (s, contents, to_partner, (lost, losses[1]), (doubled, doubles[1]))
        found.append((action + " to service", target))
    for action, contents, lost, doubled in _faults_of(links.to_partner, to_partner, losses[1], doubles[1]):
        target = (s, to_service, contents, (losses[0], lost), (doubles[0], doubled))
        found.append((action + " to partner", target))
    # Equal messages in one link are lost and doubled alike, so some faults may have been found twice.
    return sorted(set(found))


def _faults_of(link, contents, losses, doubles):
    """What faults do to one link: the action, and the contents, losses and doubles behind it."""
    found = []
    for at, message in enumerate(contents):
        if losses > 0:
            found.append(("lose " + message, contents[:at] + contents[at + 1:], losses - 1, doubles))
        if doubles > 0 and len(contents) < link.capacity:
            more = contents[:at + 1] + (message,) + contents[at + 1:]
            found.append(("double " + message, more, losses, doubles - 1))
    return found


def _is_finished(service, state):
    return state[0] in service.final and len(state[1]) == 0 and len(state[2]) == 0


def _at_hand(link, contents):
    """The messages that can be taken out of a link."""
    if link.order == "row":
        return contents[:1]
    return contents


def _put_in(link, contents, message):
    """The contents of a link into which the message was put."""
    if link.order == "row":
        return contents + (message,)
    return tuple(sorted(contents + (message,)))


def _taken_from(contents, message):
    """The contents of a link from which the message, the oldest of its kind, was taken."""
    at = contents.index(message)
    return contents[:at] + contents[at + 1:]
