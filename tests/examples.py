"""Services, links and partners that several tests use, and what a caller can see of them."""

import random

from allwhotalk.errors import TalkError
from allwhotalk.guides import Guide, Node
from allwhotalk.machines import Link, Links, Partner, Service


def direct():
    return Link(0, "row", 0, 0)


def row(capacity, losses=0, doubles=0):
    return Link(capacity, "row", losses, doubles)


def bag(capacity, losses=0, doubles=0):
    return Link(capacity, "bag", losses, doubles)


def ask_reply():
    return Service(["ask"], ["reply"], 2, [(0, "?ask", 1), (1, "!reply", 0)], [0])


def example_links():
    """The links of point 30."""
    return Links(row(1, 1), direct())


def impatient():
    """The first partner of point 30, which gets stuck."""
    return Partner(2, [(0, "!ask", 1), (1, "?reply", 0)], [0])


def patient():
    """The second partner of point 30, which is good."""
    return Partner(2, [(0, "!ask", 1), (1, "!ask", 1), (1, "?reply", 0)], [0])


def with_120_states():
    """A service and links with exactly 120 reachable system states: 12 states, each with 10 contents."""
    ring = [(k, "tau", (k + 1) % 12) for k in range(12)]
    return Service(["a", "b", "c"], [], 12, ring, [0]), Links(bag(2), direct())


def with_121_states():
    service = Service(["a", "b"], ["x"], 2, [(0, "!x", 1), (0, "?b", 1)], [0, 1])
    return service, Links(bag(2, 2, 2), bag(1))


def with_60_sets():
    """Exactly 60 sets, bad ones and the empty set among them, and fewer nodes."""
    service = Service(["a", "b"], [], 3, [(0, "?a", 0), (0, "?b", 2), (2, "?a", 1)], [0, 1, 2])
    return service, Links(bag(2, 1, 2), direct())


def with_60_good_sets():
    """Exactly 60 sets, none of them bad."""
    service = Service(["a"], ["x"], 2, [(0, "!x", 1), (1, "!x", 0), (1, "?a", 0)], [1])
    return service, Links(bag(2, 1, 2), direct())


def with_61_sets():
    """Exactly 61 sets, bad ones among them."""
    service = Service(["a", "b"], ["x"], 2, [(0, "!x", 1), (0, "?b", 0), (0, "tau", 1)], [0])
    return service, Links(bag(2, 1), row(2, 1, 1))


def with_61_good_sets():
    """Exactly 61 sets, none of them bad, the empty one among them."""
    service = Service(["a", "b"], ["x", "y"], 1, [(0, "!x", 0), (0, "?a", 0)], [0])
    return service, Links(bag(2, 2), row(2, 0, 1))


def guide_of(*nodes, inputs=("a", "b"), outputs=("x",)):
    """The guide with these nodes, each given by its moves, forbidden labels and clauses."""
    return Guide(list(inputs), list(outputs), [Node(*node) for node in nodes])


def small_guide():
    """A guide with the labels !a, !b and ?x, and a node 1 with two clauses."""
    return guide_of(
        ([("!a", 1)], ["!b", "?x"], [["!a"]]),
        ([("!b", 0), ("?x", 2)], ["!a"], [["!b", "?x"], ["?x", "final"]]),
        ([], ["!a", "!b", "?x"], [["final"]]),
    )


def ring(many, tail=0):
    """A guide with the label !a alone: a tail of nodes that leads to a ring of nodes, none with a clause."""
    last = tail + many - 1
    nodes = [([("!a", k + 1 if k < last else tail)], [], []) for k in range(last + 1)]
    return guide_of(*nodes, inputs=["a"], outputs=[])


def fields_of_service(service):
    return (service.inputs, service.outputs, service.states, service.transitions, service.final)


def fields_of_partner(partner):
    return (partner.states, partner.transitions, partner.final)


def fields_of_links(links):
    return [
        (link.capacity, link.order, link.losses, link.doubles) for link in (links.to_service, links.to_partner)
    ]


def picture(value):
    """All that a value holds, its objects' fields included: what pictures of it before and after can show."""
    if isinstance(value, (list, tuple)):
        return (value.__class__.__name__, [picture(item) for item in value])
    if isinstance(value, dict):
        return {key: picture(item) for key, item in value.items()}
    if hasattr(value, "__dict__"):
        return (value.__class__.__name__, picture(value.__dict__))
    return value


def spoil(value):
    """Changes all lists that a value holds, its objects' fields included."""
    if isinstance(value, (list, tuple)):
        for item in value:
            spoil(item)
    if isinstance(value, list):
        value.append("spoilt")
        value.reverse()
    if hasattr(value, "__dict__"):
        for item in value.__dict__.values():
            spoil(item)


def reason_of(function, *arguments):
    """The reason of the TalkError that a call raises, None if it raises none."""
    try:
        function(*arguments)
    except TalkError as error:
        return error.reason
    return None


def some_services(seed, many, states=4, transitions=7):
    """So many pairs of a service and links, always the same ones for a seed."""
    chance = random.Random(seed)
    return [(_some_service(chance, states, transitions), _some_links(chance)) for _ in range(many)]


def some_partners(seed, many, labels, states=3):
    """So many partners with these labels, always the same ones for a seed."""
    chance = random.Random(seed)
    found = []
    for _ in range(many):
        count = chance.randint(1, states)
        transitions = {
            (chance.randrange(count), chance.choice(labels), chance.randrange(count))
            for _ in range(chance.randint(0, 3 * count) if labels else 0)
        }
        found.append(Partner(count, sorted(transitions), _some_of(chance, count)))
    return found


def reachable_labels(partner):
    """The labels of the transitions from the states to which its transitions lead the partner from state 0."""
    states, border = set(), {0}
    while border:
        states |= border
        border = {q for p, _, q in partner.transitions if p in states} - states
    return {label for p, label, _ in partner.transitions if p in states}


def turned(partner, state):
    """The partner with this state as its initial one: its number and that of state 0 are exchanged."""
    numbers = {p: p for p in range(partner.states)}
    numbers[0], numbers[state] = state, 0
    transitions = [(numbers[p], label, numbers[q]) for p, label, q in partner.transitions]
    return Partner(partner.states, transitions, sorted(numbers[p] for p in partner.final))


def some_guides(seed, many, inputs=("a", "b"), outputs=("x",), most=4):
    """So many guides, not just such as services have, always the same ones for a seed."""
    chance = random.Random(seed)
    labels = sorted(["!" + m for m in inputs] + ["?" + m for m in outputs])
    found = []
    for _ in range(many):
        count = chance.randint(1, most)
        nodes = [_some_node(chance, labels, count) for _ in range(count)]
        found.append(guide_of(*nodes, inputs=inputs, outputs=outputs))
    return found


def _some_node(chance, labels, count):
    moves = [(label, chance.randrange(count)) for label in labels if chance.random() < 0.75]
    items = [label for label, _ in moves] + ["final"]
    clauses = {
        frozenset(chance.sample(items, chance.randint(1, len(items)))) for _ in range(chance.randint(0, 3))
    }
    kept = [sorted(clause) for clause in clauses if not any(other < clause for other in clauses)]
    moving = [label for label, _ in moves]
    return moves, [label for label in labels if label not in moving], sorted(kept)


def _some_service(chance, states, transitions):
    inputs = ["a", "b"][: chance.randint(0, 2)]
    outputs = ["x", "y"][: chance.randint(0, 2)]
    count = chance.randint(1, states)
    labels = ["?" + m for m in inputs] + ["!" + m for m in outputs] + ["tau"]
    found = {
        (chance.randrange(count), chance.choice(labels), chance.randrange(count))
        for _ in range(chance.randint(0, transitions))
    }
    return Service(inputs, outputs, count, sorted(found), _some_of(chance, count))


def _some_of(chance, count):
    return [state for state in range(count) if chance.random() < 0.6]


def _some_links(chance):
    return Links(_some_link(chance), _some_link(chance))


def _some_link(chance):
    capacity = chance.randint(0, 2)
    order = chance.choice(["row", "bag"])
    if capacity == 0:
        return Link(0, order, 0, 0)
    return Link(capacity, order, chance.randint(0, 2), chance.randint(0, 2))
