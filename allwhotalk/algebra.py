"""Guides made of guides, and guides compared with each other."""

from allwhotalk.checks import labels_between
from allwhotalk.clauses import FINAL, is_part, narrowest
from allwhotalk.errors import TalkError
from allwhotalk.guides import MOST_NODES, Guide, Node, numbered
from allwhotalk.machines import Partner
from allwhotalk.pairs import Pairing, is_relation, relation_from
from allwhotalk.partners import most_permissive
from allwhotalk.search import explore, reached


class GuideBeside(Pairing):
    """A guide, as a machine whose states are its nodes, beside another one."""

    def __init__(self, one, two):
        Pairing.__init__(self, [node.moves for node in one.nodes], two)
        self.clauses = [node.clauses for node in one.nodes]

    def unmet(self, pair):
        """The first clause of the other node that has no clause of the one as a part; None if each has."""
        x, y = pair
        for clause in self.nodes[y].clauses:
            if not any([is_part(own, clause) for own in self.clauses[x]]):
                return clause
        return None

    def is_fault(self, pair):
        """True if the one node has a move that the other lacks, or the other one has an unmet clause."""
        return len(self.steps(pair)) < len(self.own[pair[0]]) or self.unmet(pair) is not None


def forbid(guide, labels):
    """The result of forbidding these labels in the guide [22]."""
    nodes = [_forbidding(node, labels) for node in guide.nodes]
    return Guide(guide.inputs, guide.outputs, _without_bad(nodes))


def join(one, two):
    """The result of joining two guides [23]."""
    _refuse_different(one, two)
    if len(one.nodes) == 0 or len(two.nodes) == 0:
        return Guide(one.inputs, one.outputs, [])
    beside = GuideBeside(one, two)
    pairs = reached((0, 0), beside.steps)
    if len(pairs) > MOST_NODES:
        raise TalkError("too many nodes")
    numbers = {pair: at for at, pair in enumerate(pairs)}
    labels = labels_between(one.inputs, one.outputs)
    nodes = []
    for x, y in pairs:
        moves = [(label, numbers[there]) for label, there in beside.steps((x, y))]
        nodes.append(_joined(moves, labels, one.nodes[x].clauses + two.nodes[y].clauses))
    return Guide(one.inputs, one.outputs, _without_bad(nodes))


def is_within(one, two):
    """True if every partner that follows the one guide follows the other one [24]."""
    _refuse_different(one, two)
    return len(one.nodes) == 0 or inclusion(one, two) is not None


def inclusion(one, two):
    """An inclusion [24], ascending; None if there is none, or if one of both guides has no nodes."""
    _refuse_different(one, two)
    if len(one.nodes) == 0 or len(two.nodes) == 0:
        return None
    return relation_from(GuideBeside(one, two), (0, 0))


def is_inclusion(one, two, pairs):
    """True if this list of pairs of numbers is an inclusion [24]."""
    _refuse_different(one, two)
    return is_relation(GuideBeside(one, two), pairs)


def parting(one, two):
    """A partner that follows the one guide and not the other one; None if there is none."""
    _refuse_different(one, two)
    if len(one.nodes) == 0:
        return None
    if len(two.nodes) == 0:
        return most_permissive(one)
    beside = GuideBeside(one, two)
    before, fault = explore((0, 0), beside.steps, beside.is_fault)
    if fault is None:
        return None
    clause = beside.unmet(fault)
    if clause is None:
        # The other guide lacks a move of the one, and the most permissive partner makes them all.
        return most_permissive(one)
    return _lacking(one, fault[0], before[fault], clause)


def _refuse_different(one, two):
    if one.inputs != two.inputs or one.outputs != two.outputs:
        raise TalkError("interfaces differ")


def _forbidding(node, labels):
    """The node with these of its labels forbidden."""
    moves = [move for move in node.moves if move[0] not in labels]
    more = [label for label, _ in node.moves if label in labels]
    return Node(moves, sorted(node.forbidden + more), _clauses_without(node.clauses, labels))


def _joined(moves, labels, clauses):
    """The node with these moves, all other labels of the interface forbidden, and what is left of the clauses."""
    moving = [move[0] for move in moves]
    forbidden = [label for label in labels if label not in moving]
    return Node(moves, forbidden, _clauses_without(clauses, forbidden))


def _clauses_without(clauses, labels):
    return narrowest([[item for item in clause if item not in labels] for clause in clauses])


def _without_bad(nodes):
    """What is left of these nodes without the bad ones [22], numbered as in [15]."""
    left = {at: node for at, node in enumerate(nodes)}
    many = len(left) + 1
    while len(left) < many:
        many = len(left)
        left = {at: node for at, node in left.items() if [] not in node.clauses}
        left = {at: _forbidding(node, _labels_out_of(left, node)) for at, node in left.items()}
    return numbered(left)


def _labels_out_of(left, node):
    """The labels of the moves of the node that lead to none of the nodes that are left."""
    return [label for label, target in node.moves if target not in left]


def _lacking(guide, n, step, clause):
    """A partner that follows the guide, and at node n may meet no item of the clause.

    step is the pair of the label and the pair of nodes that led there, or None at the beginning.
    """
    rows = [list(node.moves) for node in guide.nodes]
    row = [move for move in rows[n] if move[0] not in clause]
    if step is None:
        at = 0
        rows[0] = row
    else:
        # A further state beside that of the node, as the way may lead through the node before.
        at = len(rows)
        label, (source, _) = step
        rows[source].append((label, at))
        rows.append(row)
    transitions = [(p, label, target) for p in range(len(rows)) for label, target in rows[p]]
    final = [p for p in range(len(rows)) if p != at or FINAL not in clause]
    return Partner(len(rows), transitions, final)
