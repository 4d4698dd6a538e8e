"""Services, partners and the links between them."""

from allwhotalk.checks import are_sides, ascends, is_label, is_number, labels_between
from allwhotalk.errors import TalkError

_MOST_SERVICE_STATES = 12
_MOST_SERVICE_TRANSITIONS = 60
_MOST_PARTNER_STATES = 300
_MOST_PARTNER_TRANSITIONS = 2000


class Service:
    """A service [4], its transitions in ascending order."""

    def __init__(self, inputs, outputs, states, transitions, final):
        if not _is_service(inputs, outputs, states, transitions, final):
            raise TalkError("no service")
        self.inputs = list(inputs)
        self.outputs = list(outputs)
        self.states = states
        self.transitions = sorted(transitions)
        self.final = list(final)


class Partner:
    """A partner [5], its transitions in ascending order."""

    def __init__(self, states, transitions, final):
        if not _is_partner(states, transitions, final):
            raise TalkError("no partner")
        self.states = states
        self.transitions = sorted(transitions)
        self.final = list(final)


class Link:
    """A link [6]."""

    def __init__(self, capacity, order, losses, doubles):
        if not _is_link(capacity, order, losses, doubles):
            raise TalkError("no link")
        self.capacity = capacity
        self.order = order
        self.losses = losses
        self.doubles = doubles


class Links:
    """A link to the service and a link to the partner [6]."""

    def __init__(self, to_service, to_partner):
        # Copies, so that a later change of a link that was passed has no effect here.
        self.to_service = _link_like(to_service)
        self.to_partner = _link_like(to_partner)


def labels_of(service):
    """The labels of the interface of the service, ascending [4]."""
    return labels_between(service.inputs, service.outputs)


def is_partner_for(service, partner):
    """True if all labels of the partner are labels of the interface [5]."""
    interface = labels_of(service)
    return all([transition[1] in interface for transition in partner.transitions])


def together(one, two):
    """The two services as one [27]."""
    if _have_common_messages(one, two):
        raise TalkError("common messages")
    # Two internal steps that lead nowhere fall together, so each is kept once.
    transitions = sorted(set(_transitions_of_either(one, two)))
    final = [s * two.states + t for s in one.final for t in two.final]
    inputs = sorted(one.inputs + two.inputs)
    outputs = sorted(one.outputs + two.outputs)
    return Service(inputs, outputs, one.states * two.states, transitions, final)


def dual(service):
    """The partner that receives what the service sends, and sends what it receives."""
    turned = []
    for source, label, target in service.transitions:
        if label == "tau":
            raise TalkError("internal transitions")
        turned.append((source, _turned(label), target))
    return Partner(service.states, turned, service.final)


def transitions_from(partner):
    """For each state of the partner, the pairs (label, state) of its transitions, ascending."""
    own = [[] for _ in range(partner.states)]
    for source, label, target in partner.transitions:
        own[source].append((label, target))
    return own


def _is_service(inputs, outputs, states, transitions, final):
    if not are_sides(inputs, outputs) or not _is_machine(states, transitions, final):
        return False
    if states > _MOST_SERVICE_STATES or len(transitions) > _MOST_SERVICE_TRANSITIONS:
        return False
    own = labels_between(outputs, inputs) + ["tau"]
    return all([transition[1] in own for transition in transitions])


def _is_partner(states, transitions, final):
    if not _is_machine(states, transitions, final):
        return False
    if states > _MOST_PARTNER_STATES or len(transitions) > _MOST_PARTNER_TRANSITIONS:
        return False
    return all([is_label(transition[1]) for transition in transitions])


def _is_link(capacity, order, losses, doubles):
    if not all([is_number(many) and many <= 2 for many in (capacity, losses, doubles)]):
        return False
    if capacity == 0 and losses + doubles > 0:
        return False
    return order in ("row", "bag")


def _is_machine(states, transitions, final):
    """True for what services and partners have in common, whatever the labels and the upper bounds."""
    if not is_number(states) or states == 0:
        return False
    if not isinstance(transitions, list) or not isinstance(final, list):
        return False
    if not all([_is_transition(item, states) for item in transitions]):
        return False
    if len(set(transitions)) < len(transitions):
        return False
    return all([_is_state(item, states) for item in final]) and ascends(final)


def _is_transition(item, states):
    if not isinstance(item, tuple) or len(item) != 3:
        return False
    source, label, target = item
    return _is_state(source, states) and isinstance(label, str) and _is_state(target, states)


def _is_state(item, states):
    return is_number(item) and item < states


def _link_like(link):
    return Link(link.capacity, link.order, link.losses, link.doubles)


def _turned(label):
    """The label as the machine on the other side has it."""
    if label[0] == "!":
        return "?" + label[1:]
    return "!" + label[1:]


def _have_common_messages(one, two):
    messages = two.inputs + two.outputs
    return any([message in messages for message in one.inputs + one.outputs])


def _transitions_of_either(one, two):
    """The transitions of the one and of the other on pairs of states; some may stand twice."""
    found = []
    for source, label, target in one.transitions:
        for t in range(two.states):
            found.append((source * two.states + t, label, target * two.states + t))
    for source, label, target in two.transitions:
        for s in range(one.states):
            found.append((s * two.states + source, label, s * two.states + target))
    return found
