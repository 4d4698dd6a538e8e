"""A machine beside a guide: pairs of a state of the one and a node of the other."""

from allwhotalk.search import explore


class Pairing:
    """A machine beside a guide, and the steps that both make at once.

    own has, for each state of the machine, the pairs (label, state) of its transitions. Each class below tells
    with is_fault which pairs speak against the machine.
    """

    def __init__(self, own, guide):
        self.own = own
        self.nodes = guide.nodes
        self.moves = [dict(node.moves) for node in guide.nodes]

    def has(self, pair):
        """True if this is a pair of a state and a node that there are."""
        return pair[0] in range(len(self.own)) and pair[1] in range(len(self.nodes))

    def steps(self, pair):
        """The pairs (label, pair) of the steps that both make from a pair with the same label."""
        state, n = pair
        moves = self.moves[n]
        return [(label, (target, moves[label])) for label, target in self.own[state] if label in moves]


def relation_from(pairing, first):
    """The pairs to which steps lead from the first one, ascending; None if one of them is at fault."""
    before, fault = explore(first, pairing.steps, pairing.is_fault)
    if fault is not None:
        return None
    return sorted(before)


def is_relation(pairing, pairs):
    """True if these pairs have (0, 0) and all to which steps lead from them, and none is at fault."""
    told = {pair: True for pair in pairs}
    if (0, 0) not in told:
        return False
    for pair in told:
        if not pairing.has(pair) or pairing.is_fault(pair):
            return False
        if not all([there in told for _, there in pairing.steps(pair)]):
            return False
    return True
