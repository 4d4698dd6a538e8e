"""Services, links and partners that several tests use, and what a caller can see of them."""

import random

from allwhotalk.errors import TalkError
from allwhotalk.machines import Link, Links, Partner, Service


def direct():
    return Link(0, "row", 0, 0)


def row(capacity, losses=0, doubles=0):
    return Link(capacity, "row", losses, doubles)


def bag(capacity, losses=0, doubles=0):
    return Link(capacity, "bag", losses, doubles)


def ask_reply():
    return Service(["ask"], ["reply"], 2, [(0, "?ask", 1), (1, "!reply", 0)], [0])


def example_links():
    """The links of point 30."""
    return Links(row(1, 1), direct())


def impatient():
    """The first partner of point 30, which gets stuck."""
    return Partner(2, [(0, "!ask", 1), (1, "?reply", 0)], [0])


def patient():
    """The second partner of point 30, which is good."""
    return Partner(2, [(0, "!ask", 1), (1, "!ask", 1), (1, "?reply", 0)], [0])


def with_120_states():
    """A service and links with exactly 120 reachable system states: 12 states, each with 10 contents."""
    ring = [(k, "tau", (k + 1) % 12) for k in range(12)]
    return Service(["a", "b", "c"], [], 12, ring, [0]), Links(bag(2), direct())


def with_121_states():
    service = Service(["a", "b"], ["x"], 2, [(0, "!x", 1), (0, "?b", 1)], [0, 1])
    return service, Links(bag(2, 2, 2), bag(1))


def with_60_sets():
    """Exactly 60 sets, bad ones and the empty set among them, and fewer nodes."""
    service = Service(["a", "b"], [], 3, [(0, "?a", 0), (0, "?b", 2), (2, "?a", 1)], [0, 1, 2])
    return service, Links(bag(2, 1, 2), direct())


def with_60_good_sets():
    """Exactly 60 sets, none of them bad."""
    service = Service(["a"], ["x"], 2, [(0, "!x", 1), (1, "!x", 0), (1, "?a", 0)], [1])
    return service, Links(bag(2, 1, 2), direct())


def with_61_sets():
    """Exactly 61 sets, bad ones among them."""
    service = Service(["a", "b"], ["x"], 2, [(0, "!x", 1), (0, "?b", 0), (0, "tau", 1)], [0])
    return service, Links(bag(2, 1), row(2, 1, 1))


def with_61_good_sets():
    """Exactly 61 sets, none of them bad, the empty one among them."""
    service = Service(["a", "b"], ["x", "y"], 1, [(0, "!x", 0), (0, "?a", 0)], [0])
    return service, Links(bag(2, 2), row(2, 0, 1))


def fields_of_service(service):
    return (service.inputs, service.outputs, service.states, service.transitions, service.final)


def fields_of_partner(partner):
    return (partner.states, partner.transitions, partner.final)


def fields_of_links(links):
    return [
        (link.capacity, link.order, link.losses, link.doubles) for link in (links.to_service, links.to_partner)
    ]


def reason_of(function, *arguments):
    """The reason of the TalkError that a call raises, None if it raises none."""
    try:
        function(*arguments)
    except TalkError as error:
        return error.reason
    return None


def some_services(seed, many, states=4, transitions=7):
    """So many pairs of a service and links, always the same ones for a seed."""
    chance = random.Random(seed)
    return [(_some_service(chance, states, transitions), _some_links(chance)) for _ in range(many)]


def some_partners(seed, many, labels, states=3):
    """So many partners with these labels, always the same ones for a seed."""
    chance = random.Random(seed)
    found = []
    for _ in range(many):
        count = chance.randint(1, states)
        transitions = {
            (chance.randrange(count), chance.choice(labels), chance.randrange(count))
            for _ in range(chance.randint(0, 3 * count) if labels else 0)
        }
        found.append(Partner(count, sorted(transitions), _some_of(chance, count)))
    return found


def _some_service(chance, states, transitions):
    inputs = ["a", "b"][: chance.randint(0, 2)]
    outputs = ["x", "y"][: chance.randint(0, 2)]
    count = chance.randint(1, states)
    labels = ["?" + m for m in inputs] + ["!" + m for m in outputs] + ["tau"]
    found = {
        (chance.randrange(count), chance.choice(labels), chance.randrange(count))
        for _ in range(chance.randint(0, transitions))
    }
    return Service(inputs, outputs, count, sorted(found), _some_of(chance, count))


def _some_of(chance, count):
    return [state for state in range(count) if chance.random() < 0.6]


def _some_links(chance):
    return Links(_some_link(chance), _some_link(chance))


def _some_link(chance):
    capacity = chance.randint(0, 2)
    order = chance.choice(["row", "bag"])
    if capacity == 0:
        return Link(0, order, 0, 0)
    return Link(capacity, order, chance.randint(0, 2), chance.randint(0, 2))
