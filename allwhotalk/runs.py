"""Runs of a partner with a service, and whether it gets stuck."""

from allwhotalk.errors import TalkError
from allwhotalk.machines import Link, Links, transitions_from
from allwhotalk.search import explore, way_to
from allwhotalk.systems import System

_MOST_LOSSES = 2


class Meeting:
    """A partner with a service and links: what can happen at their configurations [11]."""

    def __init__(self, service, links, partner):
        self.system = System(service, links)
        self.own = transitions_from(partner)
        self.final = list(partner.final)

    def steps(self, configuration):
        """The pairs (action, configuration) of the actions of a configuration."""
        state, p = configuration
        alone = self.system.moves[state] + self.system.faults[state]
        found = [(action, (target, p)) for action, target in alone]
        enabled = self.system.results[state]
        for label, q in self.own[p]:
            found.extend([(label, (target, q)) for target in enabled.get(label, [])])
        return found

    def is_stuck(self, configuration):
        """True if nothing more can be relied on to happen, although the exchange is not finished."""
        state, p = configuration
        if len(self.system.moves[state]) > 0:
            return False
        if any([pair[0] in self.system.results[state] for pair in self.own[p]]):
            return False
        return not (self.system.finished[state] and p in self.final)


def stuck_run(service, links, partner):
    """A stuck run [12] with as few triples as possible; None if the partner is good."""
    meeting = Meeting(service, links, partner)
    before, stuck = explore((meeting.system.first, 0), meeting.steps, meeting.is_stuck)
    if stuck is None:
        return None
    return _triples(way_to(before, stuck))


def is_good(service, links, partner):
    """True if the partner never gets stuck [11]."""
    return stuck_run(service, links, partner) is None


def is_stuck_run(service, links, partner, run):
    """True if this list of triples is a stuck run [12]."""
    meeting = Meeting(service, links, partner)
    here = (meeting.system.first, 0)
    for triple in run:
        if triple not in _triples(meeting.steps(here)):
            return False
        _, state, p = triple
        here = (state, p)
    return meeting.is_stuck(here)


def fault_table(service, links, partner):
    """Item j of item i tells if the partner is good with i losses to the service and j to the partner."""
    if links.to_service.capacity == 0 or links.to_partner.capacity == 0:
        raise TalkError("direct link")
    table = []
    for i in range(_MOST_LOSSES + 1):
        table.append([is_good(service, _losing(links, i, j), partner) for j in range(_MOST_LOSSES + 1)])
    return table


def _triples(steps):
    return [(action, state, p) for action, (state, p) in steps]


def _losing(links, i, j):
    """The same links with i losses of the one and j losses of the other."""
    one, other = links.to_service, links.to_partner
    to_service = Link(one.capacity, one.order, i, one.doubles)
    to_partner = Link(other.capacity, other.order, j, other.doubles)
    return Links(to_service, to_partner)
