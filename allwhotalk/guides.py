"""Guides: what all partners that never get stuck have in common."""

from allwhotalk.checks import are_sides, ascends, is_number, labels_between
from allwhotalk.clauses import FINAL, has_other_part, narrowest
from allwhotalk.errors import TalkError
from allwhotalk.machines import labels_of
from allwhotalk.search import reached
from allwhotalk.systems import System

MOST_NODES = 60


class Node:
    """A node of a guide [16]."""

    def __init__(self, moves, forbidden, clauses):
        self.moves = _copied(moves)
        self.forbidden = _copied(forbidden)
        self.clauses = _copied(clauses)


class Guide:
    """A guide [16]."""

    def __init__(self, inputs, outputs, nodes):
        if not _is_guide(inputs, outputs, nodes):
            raise TalkError("no guide")
        self.inputs = list(inputs)
        self.outputs = list(outputs)
        # New nodes, so that a later change of a node that was passed has no effect here.
        self.nodes = [Node(node.moves, node.forbidden, node.clauses) for node in nodes]


def form(guide):
    """All that a guide tells, as tuples; two guides are equal if their forms are."""
    return (tuple(guide.inputs), tuple(guide.outputs), tuple([_form_of(node) for node in guide.nodes]))


def knowledge(service, links, labels):
    """The knowledge of a partner behind these labels of the interface [13], ascending."""
    system = System(service, links)
    states = _first_knowledge(system)
    for label in labels:
        states = _led(system, states, label)
    return states


def build(service, links):
    """The guide of the service and its links [15]."""
    system = System(service, links)
    sets, leads = _all_knowledge(system, labels_of(service))
    bad = _bad_sets(system, sets, leads)
    nodes = {}
    for at, states in enumerate(sets):
        if at not in bad:
            nodes[at] = _node_of(system, states, leads[at], bad)
    return Guide(service.inputs, service.outputs, numbered(nodes))


def hopeless(service, links):
    """A right hopeless list [20], without pairs that it does not need; None if there is none."""
    system = System(service, links)
    sets, leads = _all_knowledge(system, labels_of(service))
    bad = _bad_sets(system, sets, leads)
    if 0 not in bad:
        return None
    pairs = []
    needed = {0: True}
    # Each bad set needs only such as were found before it, so these come later in this order.
    for at in reversed(list(bad)):
        if at in needed:
            element = bad[at]
            pairs.append((sets[at], element))
            for label in system.results[element]:
                needed[leads[at][label]] = True
    return pairs


def is_hopeless(service, links, pairs):
    """True if this list of pairs of a list of system states and one more is a right hopeless list [20]."""
    system = System(service, links)
    if len(pairs) == 0 or pairs[0][0] != _first_knowledge(system):
        return False
    for at, (states, element) in enumerate(pairs):
        if not _is_closed(system, states) or element not in states or not _is_lacking(system, element):
            return False
        later = [pair[0] for pair in pairs[at + 1:]]
        for label in system.results[element]:
            if _led(system, states, label) not in later:
                return False
    return True


def least(guide):
    """The least guide of a guide [21]."""
    firsts = _first_alike(guide.nodes)
    # Moves that lead to the first node of each part only leave the others behind.
    nodes = {at: _retargeted(node, firsts) for at, node in enumerate(guide.nodes)}
    return Guide(guide.inputs, guide.outputs, numbered(nodes))


def numbered(nodes):
    """The list of the nodes to which moves lead from node 0, numbered as in [15].

    The nodes are the values of a dict whose keys are the numbers that their moves have as targets; without
    a node 0 there are none.
    """
    if 0 not in nodes:
        return []
    order = reached(0, lambda place: nodes[place].moves)
    numbers = {number: at for at, number in enumerate(order)}
    return [_retargeted(nodes[number], numbers) for number in order]


def _copied(items):
    """A copy of a list and of the lists in it; Guide refuses what is no list."""
    if not isinstance(items, list):
        return items
    return [_copied(item) for item in items]


def _is_guide(inputs, outputs, nodes):
    if not are_sides(inputs, outputs):
        return False
    if not isinstance(nodes, list) or len(nodes) > MOST_NODES:
        return False
    labels = labels_between(inputs, outputs)
    return all([isinstance(node, Node) and _is_node(node, labels, len(nodes)) for node in nodes])


def _is_node(node, labels, many):
    """True if this can be a node of a guide with these labels and so many nodes."""
    if not isinstance(node.moves, list) or not all([_is_move(move, many) for move in node.moves]):
        return False
    if not _are_words(node.forbidden) or not ascends(node.forbidden):
        return False
    moving = [move[0] for move in node.moves]
    if not ascends(moving) or sorted(moving + node.forbidden) != labels:
        return False
    return _are_clauses(node.clauses, moving)


def _is_move(item, many):
    if not isinstance(item, tuple) or len(item) != 2:
        return False
    label, target = item
    return isinstance(label, str) and is_number(target) and target < many


def _are_words(items):
    return isinstance(items, list) and all([isinstance(item, str) for item in items])


def _are_clauses(clauses, moving):
    if not isinstance(clauses, list) or not all([_is_clause(clause, moving) for clause in clauses]):
        return False
    return ascends(clauses) and not any([has_other_part(clause, clauses) for clause in clauses])


def _is_clause(clause, moving):
    if not _are_words(clause) or len(clause) == 0:
        return False
    # As a string "final" is greater than every label, so where items ascend it is the last one.
    return ascends(clause) and all([item in moving or item == FINAL for item in clause])


def _form_of(node):
    return (tuple(node.moves), tuple(node.forbidden), tuple([tuple(clause) for clause in node.clauses]))


def _closure(system, states):
    """The closure of a set of reachable system states [13], ascending."""
    found = {state: True for state in states}
    open_ones = list(found)
    while len(open_ones) > 0:
        state = open_ones.pop()
        for _, target in system.moves[state] + system.faults[state]:
            if target not in found:
                found[target] = True
                open_ones.append(target)
    return sorted(found)


def _first_knowledge(system):
    return _closure(system, [system.first])


def _led(system, states, label):
    """The set to which the label leads a set of reachable system states [14], ascending."""
    found = []
    for state in states:
        found.extend(system.results[state].get(label, []))
    return _closure(system, found)


def _all_knowledge(system, labels):
    """All sets to which labels lead from the first knowledge, itself included.

    Returns the list of these sets, and for each of them the dict of the number of the set behind each label;
    raises TalkError if the sets are too many.
    """
    sets = [_first_knowledge(system)]
    numbers = {tuple(sets[0]): 0}
    leads = []
    while len(leads) < len(sets):
        states = sets[len(leads)]
        lead = {}
        for label in labels:
            behind = _led(system, states, label)
            lead[label] = numbers.setdefault(tuple(behind), len(sets))
            if lead[label] == len(sets):
                sets.append(behind)
        leads.append(lead)
        if len(sets) > MOST_NODES:
            raise TalkError("too many nodes")
    return sets, leads


def _bad_sets(system, sets, leads):
    """The numbers of the bad sets [14], each with an element that makes it bad.

    They stand in an order in which the enabled labels of this element lead to sets that stand before.
    """
    bad = {}
    found = -1
    while found < len(bad):
        found = len(bad)
        for at, states in enumerate(sets):
            if at not in bad:
                element = _bad_element(system, states, leads[at], bad)
                if element is not None:
                    bad[at] = element
    return bad


def _bad_element(system, states, lead, bad):
    """An element from which every enabled label leads the set to one that is known as bad, or None."""
    for state in states:
        if _is_lacking(system, state) and all([lead[label] in bad for label in system.results[state]]):
            return state
    return None


def _is_lacking(system, state):
    """True if the service waits for the partner there, as the exchange is not finished."""
    return _is_waiting(system, state) and not system.finished[state]


def _is_waiting(system, state):
    return len(system.moves[state]) == 0


def _is_closed(system, states):
    """True for an ascending list of reachable system states that is equal to its closure."""
    if not all([state in system.results for state in states]):
        return False
    return _closure(system, states) == states


def _node_of(system, states, lead, bad):
    """The node of a set that is not bad, with the numbers of sets as those of nodes."""
    moves = [(label, lead[label]) for label in sorted(lead) if lead[label] not in bad]
    forbidden = [label for label in sorted(lead) if lead[label] in bad]
    clauses = [_clause_of(system, state, forbidden) for state in states if _is_waiting(system, state)]
    return Node(moves, forbidden, narrowest(clauses))


def _clause_of(system, state, forbidden):
    """What a partner needs one of at a waiting system state."""
    clause = [label for label in sorted(system.results[state]) if label not in forbidden]
    if system.finished[state]:
        clause.append(FINAL)
    return clause


def _retargeted(node, numbers):
    """The node with moves to the nodes that have the numbers of its targets here."""
    moves = [(label, numbers[target]) for label, target in node.moves]
    return Node(moves, node.forbidden, node.clauses)


def _first_alike(nodes):
    """For each node the number of the first one that is alike [21]."""
    firsts = []
    parted = [0 for _ in nodes]
    # Nodes are taken as alike until their labels, their clauses or the parts of their targets tell them apart.
    while firsts != parted:
        firsts = parted
        parted = []
        found = {}
        for at, node in enumerate(nodes):
            targets = tuple([(label, firsts[target]) for label, target in node.moves])
            clauses = tuple([tuple(clause) for clause in node.clauses])
            parted.append(found.setdefault((targets, tuple(node.forbidden), clauses), at))
    return firsts
